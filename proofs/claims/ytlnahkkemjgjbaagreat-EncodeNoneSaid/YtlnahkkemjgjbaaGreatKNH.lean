import Derived.BigRegion
import Derived.RegionTactic
import Derived.Laws.BitsAllLaws
import Derived.Deep.RegionWith
import Derived.BigQuiet
import Derived.Deep.QuietTactic
import Derived.Test.YtlnahkkemjgjbaaGreatKNE
import Derived.Test.YtlnahkkemjgjbaaGreatKNF
namespace Go.Proofs.YtlnahkkemjgjbaaGreat
section
open Go.ChangeShapes Go.WideShapes Go.ChangeAt Go.RowKit
def rdC (v:Value) (s:RS):Array Value:=#[v,.int .i64 s.opc,.int .i64 s.err,.bool s.told,.int .i64 s.rm.kind,.int .i64 s.rm.reg,.int .i64 s.rm.base,.int .i64 s.rm.index,.int .i64 s.rm.scale,.int .u32 s.rm.disp,.int .i64 s.reg]
def RdB (u:World) (B:Nat) (v:Value) (s:RS):Prop:=u.heap[B]?=some (.cells (rdC v s) 66 (0,0))
theorem RdB.cells {u:World} {B:Nat} {v:Value} {s:RS} (h:RdB u B v s):u.cell? ⟨B,0,none⟩=some v∧u.cell? ⟨B,1,none⟩=some (.int .i64 s.opc)∧u.cell? ⟨B,2,none⟩=some (.int .i64 s.err)∧u.cell? ⟨B,3,none⟩=some (.bool s.told) :=
  ⟨(cell_block h 0).1,(cell_block h 1).1,(cell_block h 2).1,(cell_block h 3).1⟩
theorem RdB.cells' {u:World} {B:Nat} {v:Value} {s:RS} (h:RdB u B v s):u.cell? ⟨B,4,none⟩=some (.int .i64 s.rm.kind)∧u.cell? ⟨B,5,none⟩=some (.int .i64 s.rm.reg)∧u.cell? ⟨B,6,none⟩=some (.int .i64 s.rm.base)∧u.cell? ⟨B,7,none⟩=some (.int .i64 s.rm.index)∧u.cell? ⟨B,8,none⟩=some (.int .i64 s.rm.scale)∧u.cell? ⟨B,9,none⟩=some (.int .u32 s.rm.disp)∧u.cell? ⟨B,10,none⟩=some (.int .i64 s.reg) :=
  ⟨(cell_block h 4).1,(cell_block h 5).1,(cell_block h 6).1,(cell_block h 7).1,(cell_block h 8).1,(cell_block h 9).1,(cell_block h 10).1⟩
theorem RdB.froz {u:World} {B:Nat} {v:Value} {s:RS} (h:RdB u B v s) (o:Nat):u.frozen? ⟨B,o,none⟩=false:=(cell_block h o).2
theorem RdB.lt {u:World} {B:Nat} {v:Value} {s:RS} (h:RdB u B v s):B < u.heap.size:=(Array.getElem?_eq_some_iff.1 h).1
structure Rd (w0:World) (L:Nat) (bs:Nat→Int) (B:Nat) (s:RS) (u:World):Prop where
  low:w0.heap.size ≤ B
  below:Below w0.heap.size w0 u
  le:s.k ≤ L
  at_:∃ v,RdB u B v s∧Slc .u8 w0 v (L - s.k) (fun i=>bs (s.k+i))
theorem Rd.lt {w0:World} {L:Nat} {bs:Nat→Int} {B:Nat} {s:RS} {u:World} (h:Rd w0 L bs B s u):B < u.heap.size:=by obtain ⟨v,hB,_⟩:=h.at_;exact hB.lt
structure RTo (w0:World) (L:Nat) (bs:Nat→Int) (B:Nat) (s:RS) (u w':World):Prop where
  rd:Rd w0 L bs B s w'
  but:But (·=B) u w'
theorem RTo.refl {w0:World} {L:Nat} {bs:Nat→Int} {B:Nat} {s:RS} {u:World} (h:Rd w0 L bs B s u):RTo w0 L bs B s u u:=⟨h,But.refl _ _⟩
theorem RTo.trans {w0:World} {L:Nat} {bs:Nat→Int} {B:Nat} {s t:RS} {u w1 w2:World} (h:RTo w0 L bs B s u w1) (k:RTo w0 L bs B t w1 w2):RTo w0 L bs B t u w2:=⟨k.rd,h.but.trans k.but (fun _ _ h=>h)⟩
theorem Rd.alloc {w0:World} {L:Nat} {bs:Nat→Int} {B:Nat} {s:RS} {u:World} (h:Rd w0 L bs B s u) (o:Obj):Rd w0 L bs B s (u.alloc o):=by
  have hlt:=h.lt
  obtain ⟨h1,h2,h3,v,h4,h5⟩:=h
  refine ⟨h1,below_last h2 _,h3,v,?_,h5⟩
  unfold RdB at h4 ⊢
  rw [← h4]
  show (u.heap.push o)[B]?=_
  rw [Array.getElem?_push,if_neg (by omega)]
theorem Rd.drew {w0:World} {L:Nat} {bs:Nat→Int} {B:Nat} {s:RS} {u:World} (h:Rd w0 L bs B s u):Rd w0 L bs B s u.drew:=⟨h.low,h.below.drew,h.le,h.at_⟩
theorem Rd.but {w0:World} {L:Nat} {bs:Nat→Int} {B:Nat} {s:RS} {u w':World} {F:Nat→Prop} (h:Rd w0 L bs B s u) (hb:But F u w') (hF:∀ k,F k→w0.heap.size ≤ k) (hn:¬ F B):Rd w0 L bs B s w':=by
  have hlt:=h.lt
  obtain ⟨h1,h2,h3,v,h4,h5⟩:=h
  exact ⟨h1,hb.below h2 hF h2.size,h3,v,(hb.block B hlt hn).trans h4,h5⟩
theorem Rd.cell {w0:World} {L:Nat} {bs:Nat→Int} {B:Nat} {s:RS} {u:World} (h:Rd w0 L bs B s u) (k o:Nat) (v:Value) (hk:w0.heap.size ≤ k) (hn:k ≠ B):Rd w0 L bs B s (u.setCell ⟨k,o,none⟩ v) :=
  h.but (F:=fun j=>j=k) ((But.refl (fun j=>j=k) u).setCell (a:=⟨k,o,none⟩) (fun _=>rfl) v) (fun j hj=>by omega) (fun e=>hn e.symm)
theorem RTo.alloc {w0:World} {L:Nat} {bs:Nat→Int} {B:Nat} {s:RS} {u w':World} (h:RTo w0 L bs B s u w') (o:Obj):RTo w0 L bs B s u (w'.alloc o):=⟨h.rd.alloc o,h.but.alloc o⟩
theorem RTo.drew {w0:World} {L:Nat} {bs:Nat→Int} {B:Nat} {s:RS} {u w':World} (h:RTo w0 L bs B s u w'):RTo w0 L bs B s u w'.drew:=⟨h.rd.drew,h.but.drew⟩
theorem RTo.cell {w0:World} {L:Nat} {bs:Nat→Int} {B:Nat} {s:RS} {u w':World} (h:RTo w0 L bs B s u w') (k o:Nat) (v:Value) (hk:u.heap.size ≤ k) (hB:B < u.heap.size):RTo w0 L bs B s u (w'.setCell ⟨k,o,none⟩ v) :=
  ⟨h.rd.cell k o v (by have:=h.rd.low;omega) (by omega),h.but.setCell (fun hl=>absurd hl (by show ¬ k < _;omega)) _⟩
theorem Rd.set {w0:World} {L:Nat} {bs:Nat→Int} {B:Nat} {s t:RS} {u:World} (h:Rd w0 L bs B s u) (o:Nat) (x:Value) (ht:t.k=s.k) (hx:∀ v,(rdC v s).setIfInBounds o x=rdC v t):Rd w0 L bs B t (u.setCell ⟨B,o,none⟩ x):=by
  obtain ⟨h1,h2,h3,v,h4,h5⟩:=h
  refine ⟨h1,h2.setCell h1 _,by rw [ht];exact h3,v,?_,by rw [ht];exact h5⟩
  have:=block_setCell h4 o x
  rw [hx] at this
  exact this
theorem RTo.set {w0:World} {L:Nat} {bs:Nat→Int} {B:Nat} {s t:RS} {u w':World} (h:RTo w0 L bs B s u w') (o:Nat) (x:Value) (ht:t.k=s.k) (hx:∀ v,(rdC v s).setIfInBounds o x=rdC v t):RTo w0 L bs B t u (w'.setCell ⟨B,o,none⟩ x) :=
  ⟨h.rd.set o x ht hx,h.but.setCell (fun _=>rfl) _⟩
theorem Rd.rest {w0:World} {L:Nat} {bs:Nat→Int} {B:Nat} {s t:RS} {u:World} (h:Rd w0 L bs B s u) (x:Value) (hs:Slc .u8 w0 x (L - t.k) (fun i=>bs (t.k+i))) (hk:t.k ≤ L) (ht:∀ v,(rdC v s).setIfInBounds 0 x=rdC x t):Rd w0 L bs B t (u.setCell ⟨B,0,none⟩ x):=by
  obtain ⟨h1,h2,h3,v,h4,h5⟩:=h
  refine ⟨h1,h2.setCell h1 _,hk,x,?_,hs⟩
  have:=block_setCell h4 0 x
  rw [ht] at this
  exact this
theorem RTo.rest {w0:World} {L:Nat} {bs:Nat→Int} {B:Nat} {s t:RS} {u w':World} (h:RTo w0 L bs B s u w') (x:Value) (hs:Slc .u8 w0 x (L - t.k) (fun i=>bs (t.k+i))) (hk:t.k ≤ L) (ht:∀ v,(rdC v s).setIfInBounds 0 x=rdC x t):RTo w0 L bs B t u (w'.setCell ⟨B,0,none⟩ x) :=
  ⟨h.rd.rest x hs hk ht,h.but.setCell (fun _=>rfl) _⟩
theorem dfail_any (x:Int) (w0:World) (L:Nat) (bs:Nat→Int) (B:Nat) (s:RS) (u:World) (h:Rd w0 L bs B s u) :
    Calls Tryz.prog 24 #[.pointer (some ⟨B,0,none⟩),.int .i64 x] u fun e w'=>e=.returned (.tuple #[])∧RTo w0 L bs B (failS s x) u w':=by
  obtain ⟨v,hB,hs⟩:=h.at_
  obtain ⟨c0,c1,c2,c3⟩:=hB.cells
  have z2:=hB.froz 2
  have H:=Lib.hid h
  clear h hB hs c0 c1 c3
  by_cases he:s.err=0
  · have hf:=Lib.hid (show failS s x={ s with err:=x } by unfold failS;rw [if_pos he])
    rw [he] at c2
    clear he
    go_enter Tryz.func24,Tryz.ntmps24
    go_wp2
    go_end0
    exact ⟨rfl,by rw [hf.out];exact (RTo.refl H.out).set 2 _ rfl (fun _=>rfl)⟩
  · have hf:=Lib.hid (fail_keeps he x)
    have e2:(s.err == 0)=false:=by simpa using he
    clear he
    go_enter Tryz.func24,Tryz.ntmps24
    go_wp2
    go_end0
    exact ⟨rfl,by rw [hf.out];exact RTo.refl H.out⟩
theorem slice_tail (ad:Addr) (L cap k:Nat) (ks:Int) (e1:ks=k) (h1:k ≤ L) (w:World) :
    (Instr.sliceAt 30 (.slice (some ad) L cap) (some (.int .i64 ks)) none none).run Tryz.prog w=.ok (.slice (some (cutA ad cap k)) (L - k) (cap - k)) w:=by
  have hE:Tryz.prog.elem 30=5:=by kernel_rfl
  have hz:(sizeOf (Tryz.prog.elem 30)).run Tryz.prog w=.ok 1 w:=by kernel_rfl
  have hu:Tryz.prog.underlying 30=some (.slice (Tryz.prog.elem 30)):=by rw [hE];exact Tryz.underlying30
  subst e1
  rw [run_sliceAt_slice w _ _ _ _ _ hu,run_slice_l w _ _ _ _ hu .i64 (k:Int) (by omega) (by omega),hz]
  simp only [Result.andThen,sliced,Option.map_some,Nat.mul_one,Int.toNat_natCast]
  unfold cutA
  by_cases hk:cap=k
  · rw [if_pos hk,if_pos (by omega)]
  · rw [if_neg hk,if_neg (by omega)]
theorem slice_head (ad:Addr) (L cap k:Nat) (ks:Int) (e1:ks=k) (h1:k ≤ cap) (w:World) :
    (Instr.sliceAt 30 (.slice (some ad) L cap) none (some (.int .i64 ks)) none).run Tryz.prog w=.ok (.slice (some ad) k cap) w:=by
  have hE:Tryz.prog.elem 30=5:=by kernel_rfl
  have hz:(sizeOf (Tryz.prog.elem 30)).run Tryz.prog w=.ok 1 w:=by kernel_rfl
  have hu:Tryz.prog.underlying 30=some (.slice (Tryz.prog.elem 30)):=by rw [hE];exact Tryz.underlying30
  subst e1
  rw [run_sliceAt_slice w _ _ _ _ _ hu,run_slice_h w _ _ _ _ hu .i64 (k:Int) (by omega) (by omega),hz]
  simp only [Result.andThen,sliced,Option.map_some,Nat.mul_one,Int.toNat_natCast]
  simp [Addr.add]
theorem slc_tail {w:World} {ad:Addr} {M cap:Nat} {bs:Nat→Int} (hc:∀ i,i < M→w.cell? (ad.add i)=some (.int .u8 (bs i))) (hl:M ≤ cap) (k:Nat) (hk:k ≤ M):Slc .u8 w (.slice (some (cutA ad cap k)) (M - k) (cap - k)) (M - k) (fun i=>bs (k+i)):=by
  refine .inr ⟨_,_,rfl,by omega,fun i hi=>?_⟩
  rw [← hc (k+i) (by omega)]
  unfold cutA
  rw [if_neg (by omega)]
  congr 1
  unfold Addr.add
  by_cases h0:k=0
  · subst h0;simp
  · by_cases hi0:i=0
    · subst hi0;simp [h0]
    · rw [if_neg h0,if_neg hi0,if_neg (by omega)];simp [Nat.add_assoc]
theorem leB_bd (bs:Nat→Int) (h:∀ i,0 ≤ bs i∧bs i < 256) (k:Nat):∀ n,0 ≤ leB bs k n∧leB bs k n < 256 ^ n
  | 0=>by unfold leB;exact ⟨by omega,by decide⟩
  | n+1=>by
    obtain ⟨h0,h1⟩:=leB_bd bs h k n
    obtain ⟨b0,b1⟩:=h (k+n)
    unfold leB
    have hp:(0:Int) < 256 ^ n:=Int.pow_pos (by decide)
    rw [Int.pow_succ]
    generalize (256:Int) ^ n=P at *
    have m0:=Int.mul_nonneg b0 (Int.le_of_lt hp)
    have m1:=Int.mul_le_mul_of_nonneg_right (show bs (k+n) ≤ 255 by omega) (Int.le_of_lt hp)
    constructor <;> omega
set_option maxRecDepth 100000
set_option maxHeartbeats 4000000
theorem dnumber_yes (n:Nat) (hn:n ≤ 4) (w0:World) (L:Nat) (bs:Nat→Int) (hb:∀ i,0 ≤ bs i∧bs i < 256) (B:Nat) (s:RS) (u:World) (h:Rd w0 L bs B s u) (hle:s.k+n ≤ L) (hn0:0 < n) :
    Calls Tryz.prog 64 #[.pointer (some ⟨B,0,none⟩),.int .i64 (n:Int)] u fun e w'=>e=.returned (.int .u32 (leB bs s.k n))∧RTo w0 L bs B { s with k:=s.k+n } u w':=by
  obtain ⟨v,hB,hs⟩:=h.at_
  have hs0:=hs
  obtain ⟨c0,c1,c2,c3⟩:=hB.cells
  have z0:=hB.froz 0
  rcases hs.below h.below with ⟨_,h0⟩ | ⟨ad,cap,rfl,hl,hc⟩
  · omega
  rcases hs0 with ⟨h0,_⟩ | ⟨ad0,cap0,he0,hl0,hc0⟩
  · cases h0
  cases he0
  have H:=Lib.hid h
  have HT:=Lib.hid (slc_tail hc0 hl0 n (by omega))
  clear h hB hs c1 c2 c3 hc0
  obtain ⟨M,hM⟩:∃ M,L - s.k=M:=⟨_,rfl⟩
  have hMl:M ≤ L:=by omega
  have hnM:n ≤ M:=by omega
  rw [hM] at HT c0 hl hc hl0
  have HM:=Lib.hid hM
  have hcut:=fun W=>slice_head ad M cap n n rfl (by omega) W
  have htl:=fun W=>slice_tail ad M cap n n rfl (by omega) W
  have HC:=Lib.hid hc
  have HB:=Lib.hid hb
  have e1:decide ((M:Int) < (n:Int))=false:=by simp;omega
  have e1':decide (M < n)=false:=by simp;omega
  clear hc hb hM
  go_enter Tryz.func64,Tryz.ntmps64
  go_wp2
  go_loop [5,24] (fun v5 v24=>∃ k:Nat,k ≤ n∧v24=.int .i64 k∧v5=.int .u32 (leB bs s.k k)) (fun _ v24=>n - (intOf v24).toNat)
  case atStart=>exact ⟨0,Nat.zero_le _,rfl,rfl⟩
  case round =>
    obtain ⟨k,hk,rfl,rfl⟩:=hrel
    by_cases hlt:k < n
    · have h8:k=0 ∨ k=1 ∨ k=2 ∨ k=3:=by omega
      have hcell:=HC.out k (by omega)
      have hbd:=leB_bd bs HB.out s.k k
      have hx:=HB.out (s.k+k)
      have HS:=Lib.hid (show leB bs s.k (k+1)=leB bs s.k k+bs (s.k+k) * 256 ^ k from rfl)
      generalize leB bs s.k k=A at *
      generalize bs (s.k+k)=x at *
      have e0:IntKind.u32.wrap x=x:=by rw [IntKind.wrap_u32];omega
      rcases h8 with rfl | rfl | rfl | rfl
      · have hcell:u.cell? ad=some (.int .u8 x):=by simpa [Addr.add] using hcell
        have i0:(0:Int) < (n:Int):=by omega
        obtain rfl:A=0:=by omega
        have o1:bits .or .u32 0 x=x:=by have:=or_add 0 0 x (by omega) (by decide) hx.1 (by simp;omega);simpa using this
        clear hbd hlt
        go_wp2
        go_round
        case rel=>exact ⟨1,by omega,rfl,by rw [HS.out];first | rfl | (congr 1;simp)⟩
        case measure=>simp [intOf];omega
      · have hcell:u.cell? ⟨ad.block,ad.off+1,none⟩=some (.int .u8 x):=by simpa [Addr.add] using hcell
        have i0:(1:Int) < (n:Int):=by omega
        have s1:IntKind.u32.wrap (x * 256)=x * 256:=by rw [IntKind.wrap_u32];omega
        have o1:bits .or .u32 A (x * 256)=A+x * 256:=or_add 8 A x (by omega) (by show A < (256:Int);omega) hx.1 (by show A+x * 256 < _;omega)
        clear hbd hlt
        go_wp2
        go_round
        case rel=>exact ⟨2,by omega,rfl,by rw [HS.out];first | rfl | (congr 1;simp)⟩
        case measure=>simp [intOf];omega
      · have hcell:u.cell? ⟨ad.block,ad.off+2,none⟩=some (.int .u8 x):=by simpa [Addr.add] using hcell
        have i0:(2:Int) < (n:Int):=by omega
        have s1:IntKind.u32.wrap (x * 65536)=x * 65536:=by rw [IntKind.wrap_u32];omega
        have o1:bits .or .u32 A (x * 65536)=A+x * 65536:=or_add 16 A x (by omega) (by show A < (65536:Int);omega) hx.1 (by show A+x * 65536 < _;omega)
        clear hbd hlt
        go_wp2
        go_round
        case rel=>exact ⟨3,by omega,rfl,by rw [HS.out];first | rfl | (congr 1;simp)⟩
        case measure=>simp [intOf];omega
      · have hcell:u.cell? ⟨ad.block,ad.off+3,none⟩=some (.int .u8 x):=by simpa [Addr.add] using hcell
        have i0:(3:Int) < (n:Int):=by omega
        have s1:IntKind.u32.wrap (x * 16777216)=x * 16777216:=by rw [IntKind.wrap_u32];omega
        have o1:bits .or .u32 A (x * 16777216)=A+x * 16777216:=or_add 24 A x (by omega) (by show A < (16777216:Int);omega) hx.1 (by show A+x * 16777216 < _;omega)
        clear hbd hlt
        go_wp2
        go_round
        case rel=>exact ⟨4,by omega,rfl,by rw [HS.out];first | rfl | (congr 1;simp)⟩
        case measure=>simp [intOf];omega
    · obtain rfl:k=n:=by omega
      clear hlt
      go_wp2
      go_ret
      refine ⟨rfl,(RTo.refl H.out).rest _ ?_ (by show s.k+k ≤ L;omega) (fun _=>rfl)⟩
      have h1:=HT.out
      show Slc .u8 w0 _ (L - (s.k+k)) (fun i=>bs (s.k+k+i))
      rw [show L - (s.k+k)=M - k by have:=HM.out;omega]
      exact h1.congr (fun i _=>by rw [Nat.add_assoc])
set_option maxRecDepth 512
theorem dnumber_no (n:Nat) (w0:World) (L:Nat) (bs:Nat→Int) (B:Nat) (s:RS) (u:World) (h:Rd w0 L bs B s u) (hle:L < s.k+n) :
    Calls Tryz.prog 64 #[.pointer (some ⟨B,0,none⟩),.int .i64 (n:Int)] u fun e w'=>e=.returned (.int .u32 0)∧RTo w0 L bs B (failS s 21) u w':=by
  obtain ⟨v,hB,hs⟩:=h.at_
  obtain ⟨c0,c1,c2,c3⟩:=hB.cells
  have HF:=Lib.hid (dfail_any 21 w0 L bs B s u h)
  obtain ⟨a,cap,rfl⟩:=hs.len
  have hkl:=h.le
  obtain ⟨M,hM⟩:∃ M,L - s.k=M:=⟨_,rfl⟩
  have hMl:M ≤ L:=by omega
  have hnM:M < n:=by omega
  rw [hM] at c0
  have e1:decide ((M:Int) < (n:Int))=true:=by simp;omega
  have e1':decide (M < n)=true:=by simp;omega
  clear h hB hs c1 c2 c3 hM
  go_enter Tryz.func64,Tryz.ntmps64
  go_wp2_with fail
  refine HF.out.mono ?_
  rintro e w1 ⟨rfl,h1⟩
  go_wp2_with fail
  go_ret
  exact ⟨rfl,h1⟩
theorem dnumber_any (n:Nat) (N:Int) (hN:N=n) (hn:n ≤ 4) (hn0:0 < n) (w0:World) (L:Nat) (bs:Nat→Int) (hb:∀ i,0 ≤ bs i∧bs i < 256) (B:Nat) (s:RS) (u:World) (h:Rd w0 L bs B s u) :
    Calls Tryz.prog 64 #[.pointer (some ⟨B,0,none⟩),.int .i64 N] u fun e w'=>e=.returned (.int .u32 (numS L bs n s).1)∧RTo w0 L bs B (numS L bs n s).2 u w':=by
  subst hN
  by_cases hle:L < s.k+n
  · rw [num_no hle]
    exact dnumber_no n w0 L bs B s u h hle
  · rw [num_yes (by omega)]
    exact dnumber_yes n hn w0 L bs hb B s u h (by omega) hn0
theorem dnext_any (w0:World) (L:Nat) (bs:Nat→Int) (hb:∀ i,0 ≤ bs i∧bs i < 256) (B:Nat) (s:RS) (u:World) (h:Rd w0 L bs B s u) :
    Calls Tryz.prog 45 #[.pointer (some ⟨B,0,none⟩)] u fun e w'=>e=.returned (.int .i64 (numS L bs 1 s).1)∧RTo w0 L bs B (numS L bs 1 s).2 u w':=by
  have HN:=Lib.hid (dnumber_any 1 1 rfl (by decide) (by decide) w0 L bs hb B s u h)
  have hbd:0 ≤ (numS L bs 1 s).1∧(numS L bs 1 s).1 < 256:=by
    unfold numS
    split
    · exact ⟨Int.le_refl _,by show (0:Int) < 256;decide⟩
    · exact leB_bd bs hb s.k 1
  clear h hb
  generalize (numS L bs 1 s).1=x at *
  go_enter Tryz.func45,Tryz.ntmps45
  go_wp2_with fail
  refine HN.out.mono ?_
  rintro e w1 ⟨rfl,h1⟩
  go_wp2_with fail
  go_ret
  exact ⟨rfl,h1⟩
theorem numS_bd (L:Nat) (bs:Nat→Int) (hb:∀ i,0 ≤ bs i∧bs i < 256) (n:Nat) (s:RS):0 ≤ (numS L bs n s).1∧(numS L bs n s).1 < 256 ^ n:=by
  unfold numS
  split
  · exact ⟨Int.le_refl _,Int.pow_pos (by decide)⟩
  · exact leB_bd bs hb s.k n
theorem descaped_any (w0:World) (L:Nat) (bs:Nat→Int) (hb:∀ i,0 ≤ bs i∧bs i < 256) (B:Nat) (s:RS) (u:World) (h:Rd w0 L bs B s u) :
    Calls Tryz.prog 48 #[.pointer (some ⟨B,0,none⟩)] u fun e w'=>e=.returned (.int .i64 (escS L bs s).1)∧RTo w0 L bs B (escS L bs s).2 u w':=by
  have HN:=Lib.hid (dnext_any w0 L bs hb B s u h)
  by_cases he:(numS L bs 1 s).1=15
  · have HE:=Lib.hid (show escS L bs s=numS L bs 1 (numS L bs 1 s).2 by unfold escS;rw [if_pos he])
    have HX:=Lib.hid (fun (t:RS) (w1:World) (h1:Rd w0 L bs B t w1)=>dnext_any w0 L bs hb B t w1 h1)
    rw [he] at HN
    clear h hb he
    go_enter Tryz.func48,Tryz.ntmps48
    go_wp2_with fail
    refine HN.out.mono ?_
    rintro e w1 ⟨rfl,h1⟩
    have H1:=Lib.hid h1
    clear h1
    go_wp2_with fail
    refine (HX.out _ _ H1.out.rd).mono ?_
    rintro e w2 ⟨rfl,h2⟩
    go_wp2_with fail
    go_ret
    rw [HE.out]
    exact ⟨rfl,H1.out.trans h2⟩
  · have HE:=Lib.hid (show escS L bs s=numS L bs 1 (failS (numS L bs 1 s).2 22) by unfold escS;rw [if_neg he])
    have HX:=Lib.hid (fun (t:RS) (w1:World) (h1:Rd w0 L bs B t w1)=>dnext_any w0 L bs hb B t w1 h1)
    have e1:((numS L bs 1 s).1 == 15)=false:=by simpa using he
    clear h hb he
    go_enter Tryz.func48,Tryz.ntmps48
    go_wp2_with fail
    refine HN.out.mono ?_
    rintro e w1 ⟨rfl,h1⟩
    have H1:=Lib.hid h1
    clear h1
    go_wp2_with fail
    refine (dfail_any 22 w0 L bs B _ _ H1.out.rd).mono ?_
    rintro e w2 ⟨rfl,h2⟩
    have H2:=Lib.hid h2
    clear h2
    go_wp2_with fail
    refine (HX.out _ _ H2.out.rd).mono ?_
    rintro e w3 ⟨rfl,h3⟩
    go_wp2_with fail
    go_ret
    rw [HE.out]
    exact ⟨rfl,(H1.out.trans H2.out).trans h3⟩
theorem dmember_any (w0:World) (L:Nat) (bs:Nat→Int) (hb:∀ i,0 ≤ bs i∧bs i < 256) (B:Nat) (s:RS) (u:World) (h:Rd w0 L bs B s u) :
    Calls Tryz.prog 52 #[.pointer (some ⟨B,0,none⟩)] u fun e w'=>e=.returned (.int .i64 (memS L bs s).1)∧RTo w0 L bs B (memS L bs s).2 u w':=by
  obtain ⟨v,hB,hs⟩:=h.at_
  obtain ⟨c0,_⟩:=hB.cells
  by_cases hL:L ≤ s.k
  · rw [show memS L bs s=(0,failS s 21) by unfold memS;rw [if_pos hL]]
    have HF:=Lib.hid (dfail_any 21 w0 L bs B s u h)
    obtain ⟨a,cap,rfl⟩:=hs.len
    rw [show L - s.k=0 by omega] at c0
    clear h hB hs hL hb
    go_enter Tryz.func52,Tryz.ntmps52
    go_wp2_with fail
    refine HF.out.mono ?_
    rintro e w1 ⟨rfl,h1⟩
    go_wp2_with fail
    go_ret
    exact ⟨rfl,h1⟩
  · rw [show memS L bs s=(bs s.k / 8 % 8,s) by unfold memS;rw [if_neg hL]]
    have H:=Lib.hid (RTo.refl h)
    rcases hs.below h.below with ⟨_,h0⟩ | ⟨ad,cap,rfl,hl,hc⟩
    · omega
    have hc0:=hc 0 (by omega)
    have hx:=hb s.k
    replace hc0:u.cell? (ad.add 0)=some (.int .u8 (bs s.k)):=hc0
    obtain ⟨M,hM⟩:∃ M,L - s.k=M:=⟨_,rfl⟩
    have hM0:0 < M:=by omega
    rw [hM] at c0 hl
    clear h hB hs hL hb hM hc
    have hc1:u.cell? ad=some (.int .u8 (bs s.k)):=by simpa [Addr.add] using hc0
    clear hc0
    generalize bs s.k=x at *
    have a1:=and7 (x / 8) (by omega) (by omega)
    have i0:(0:Int) < (M:Int):=by omega
    have e0:((M:Int) == 0)=false:=by simp;omega
    have e0':(M == 0)=false:=by simp;omega
    go_enter Tryz.func52,Tryz.ntmps52
    go_wp2
    go_ret
    exact ⟨rfl,H.out⟩
theorem dkind_any (size:Int) (w:World):Calls Tryz.prog 89 #[.int .i64 size] w fun e w'=>e=.returned (.int .i64 (kindF size))∧w=w':=by
  by_cases h1:size=1
  · subst h1
    go_enter Tryz.func89,Tryz.ntmps89
    go_wp2
    go_ret
    exact ⟨rfl,rfl⟩
  by_cases h8:size=8
  · subst h8
    go_enter Tryz.func89,Tryz.ntmps89
    go_wp2
    go_ret
    exact ⟨rfl,rfl⟩
  have hV:=Lib.hid (show kindF size=1 by unfold kindF;rw [if_neg h1,if_neg h8])
  have e1:(size == 1)=false:=by simpa using h1
  have e8:(size == 8)=false:=by simpa using h8
  clear h1 h8
  go_enter Tryz.func89,Tryz.ntmps89
  go_wp2
  go_ret
  exact ⟨by rw [hV.out];rfl,rfl⟩
theorem dalone_any (k r d:Int) (w:World):Calls Tryz.prog 54 #[.int .i64 k,.int .i64 r,.int .u32 d] w fun e w'=>e=.returned (.agg #[.int .i64 k,.int .i64 r,.int .i64 (-1),.int .i64 (-1),.int .i64 1,.int .u32 d])∧w'=w.alloc (.cells #[.int .i64 k,.int .i64 r,.int .i64 (-1),.int .i64 (-1),.int .i64 1,.int .u32 d] 24):=by
  go_enter Tryz.func54,Tryz.ntmps54
  go_wp2
  go_returns
  exact ⟨rfl,rfl⟩
end
section
open Go.ChangeShapes Go.WideShapes Go.ChangeAt Go.RowKit
theorem Slc.zero {w:World} {v:Value} {L:Nat} {bs:Nat→Int} (h:Slc .u8 w v L bs) (W:World):(Instr.sliceAt 30 v (some (.int .i64 0)) none none).run Tryz.prog W=.ok v W:=by
  have hE:Tryz.prog.elem 30=5:=by kernel_rfl
  have hz:(sizeOf (Tryz.prog.elem 30)).run Tryz.prog W=.ok 1 W:=by kernel_rfl
  have hu:Tryz.prog.underlying 30=some (.slice (Tryz.prog.elem 30)):=by rw [hE];exact Tryz.underlying30
  obtain ⟨a,cap,rfl⟩:=h.len
  rw [run_sliceAt_slice W _ _ _ _ _ hu,run_slice_l W _ _ _ _ hu .i64 (0:Int) (by omega) (by omega),hz]
  simp [Result.andThen,sliced,Addr.add]
theorem six_but {w w2:World} {B:Nat} {a b c d e f:Value} {T:TypeId} (h:But (·=B) (w.alloc (.cells #[a,b,c,d,e,f] T)) w2) (hB:B < w.heap.size) :
    w2.cell? ⟨w.heap.size,0,none⟩=some a∧w2.cell? ⟨w.heap.size,1,none⟩=some b∧w2.cell? ⟨w.heap.size,2,none⟩=some c∧w2.cell? ⟨w.heap.size,3,none⟩=some d∧w2.cell? ⟨w.heap.size,4,none⟩=some e∧w2.cell? ⟨w.heap.size,5,none⟩=some f:=by
  have hn:¬ w.heap.size=B:=by omega
  refine ⟨?_,?_,?_,?_,?_,?_⟩
  all_goals
    refine h.cell ?_ hn
    rw [World.cell?_alloc_new]
    rfl
theorem six_but_froz {w w2:World} {B:Nat} {a b c d e f:Value} {T:TypeId} (h:But (·=B) (w.alloc (.cells #[a,b,c,d,e,f] T)) w2) (hB:B < w.heap.size) (o:Nat):w2.frozen? ⟨w.heap.size,o,none⟩=false:=by
  rw [h.frozen (by simp) (by show ¬ w.heap.size=B;omega)]
  simp [go_sem]
theorem RTo.eight {w0:World} {L:Nat} {bs:Nat→Int} {B:Nat} {s:RS} {u w':World} (h:RTo w0 L bs B s u w') (o:Opd) (r:Int) :
    RTo w0 L bs B { s with told:=true,rm:=o,reg:=r } u ((((((((w'.setCell ⟨B,3,none⟩ (.bool true)).setCell ⟨B,4,none⟩ (.int .i64 o.kind)).setCell ⟨B,5,none⟩ (.int .i64 o.reg)).setCell ⟨B,6,none⟩ (.int .i64 o.base)).setCell ⟨B,7,none⟩ (.int .i64 o.index)).setCell ⟨B,8,none⟩ (.int .i64 o.scale)).setCell ⟨B,9,none⟩ (.int .u32 o.disp)).setCell ⟨B,10,none⟩ (.int .i64 r)).drew:=by
  refine RTo.drew ?_
  refine RTo.set (s:={ s with told:=true,rm:=o }) ?_ 10 _ rfl (fun _=>rfl)
  refine RTo.set (s:={ s with told:=true,rm:={ o with disp:=s.rm.disp } }) ?_ 9 _ rfl (fun _=>rfl)
  refine RTo.set (s:={ s with told:=true,rm:={ o with disp:=s.rm.disp,scale:=s.rm.scale } }) ?_ 8 _ rfl (fun _=>rfl)
  refine RTo.set (s:={ s with told:=true,rm:={ o with disp:=s.rm.disp,scale:=s.rm.scale,index:=s.rm.index } }) ?_ 7 _ rfl (fun _=>rfl)
  refine RTo.set (s:={ s with told:=true,rm:={ o with disp:=s.rm.disp,scale:=s.rm.scale,index:=s.rm.index,base:=s.rm.base } }) ?_ 6 _ rfl (fun _=>rfl)
  refine RTo.set (s:={ s with told:=true,rm:={ o with disp:=s.rm.disp,scale:=s.rm.scale,index:=s.rm.index,base:=s.rm.base,reg:=s.rm.reg } }) ?_ 5 _ rfl (fun _=>rfl)
  refine RTo.set (s:={ s with told:=true }) ?_ 4 _ rfl (fun _=>rfl)
  exact h.set 3 _ rfl (fun _=>rfl)
theorem RTo.again {w0:World} {L:Nat} {bs:Nat→Int} {B:Nat} {s:RS} {u w':World} (h:RTo w0 L bs B s u w') {v:Value} (hs:Slc .u8 w0 v (L - s.k) (fun i=>bs (s.k+i))):RTo w0 L bs B s u (w'.setCell ⟨B,0,none⟩ v):=h.rest v hs h.rd.le (fun _=>rfl)
set_option maxRecDepth 100000
set_option maxHeartbeats 4000000
theorem doperands_none (w0:World) (L:Nat) (bs:Nat→Int) (hb:∀ i,0 ≤ bs i∧bs i < 256) (hL:L ≤ 1099511627776) (B:Nat) (s:RS) (u:World) (h:Rd w0 L bs B s u) (ht:s.told=false) (hr:rmF (L - s.k) (fun i=>bs (s.k+i))=none) :
    Calls Tryz.prog 88 #[.pointer (some ⟨B,0,none⟩)] u fun e w'=>e=.returned (.tuple #[])∧RTo w0 L bs B { failS s 21 with told:=true,rm:=zeroO,reg:=0 } u w':=by
  obtain ⟨v,hB,hs⟩:=h.at_
  obtain ⟨a,q,rfl⟩:=hs.len
  obtain ⟨c0,c1,c2,c3⟩:=hB.cells
  have hR:=mrread_any _ (L - s.k) _ (fun i=>hb (s.k+i)) u (hs.below h.below) (by unfold maxLen;omega)
  rw [rmV_none hr] at hR
  have HR:=Lib.hid hR
  have H:=Lib.hid h
  have HF:=Lib.hid (fun (w1:World) (h1:Rd w0 L bs B s w1)=>dfail_any 21 w0 L bs B s w1 h1)
  have hsz:=hs.zero
  rw [ht] at c3
  clear h hB hs c1 c2 hb hL ht hr
  go_enter Tryz.func88,Tryz.ntmps88
  go_wp2_with fail
  refine HR.out.mono ?_
  rintro e w1 ⟨rfl,hb1⟩
  go_wp2_with fail
  refine (HF.out _ ((H.out.but (F:=fun _=>False) (But.of_below hb1) (fun _ h=>h.elim) (fun h=>h)).alloc _)).mono ?_
  rintro e w2 ⟨rfl,h2⟩
  obtain ⟨v2,hB2,hs2⟩:=h2.rd.at_
  obtain ⟨a2,q2,rfl⟩:=hs2.len
  obtain ⟨x0,x1,x2,x3⟩:=hB2.cells
  obtain ⟨x4,x5,x6,x7,x8,x9,x10⟩:=hB2.cells'
  have y0:=hB2.froz 0
  have y3:=hB2.froz 3
  have y4:=hB2.froz 4
  have y5:=hB2.froz 5
  have y6:=hB2.froz 6
  have y7:=hB2.froz 7
  have y8:=hB2.froz 8
  have y9:=hB2.froz 9
  have y10:=hB2.froz 10
  obtain ⟨o0,o1,o2,o3,o4,o5⟩:=six_but h2.but (by have:=H.out.lt;have:=hb1.size;omega)
  have hne:B ≠ w1.heap.size:=by have:=H.out.lt;have:=hb1.size;omega
  have hne':w1.heap.size ≠ B:=fun e=>hne e.symm
  have H2:=Lib.hid h2
  have HBT:=Lib.hid (show But (·=B) u w2 from ((But.of_below hb1).alloc _).trans h2.but (fun _ _ h=>h))
  have hsz2:=hs2.zero
  clear h2 hB2 hs2 hb1
  go_wp2_with fail
  go_region
  all_goals
    have h3:RTo w0 L bs B { failS s 21 with told:=true,rm:=zeroO,reg:=0 } u ((((((((w2.setCell ⟨B,3,none⟩ (.bool true)).setCell ⟨B,4,none⟩ (.int .i64 0)).setCell ⟨B,5,none⟩ (.int .i64 0)).setCell ⟨B,6,none⟩ (.int .i64 0)).setCell ⟨B,7,none⟩ (.int .i64 0)).setCell ⟨B,8,none⟩ (.int .i64 0)).setCell ⟨B,9,none⟩ (.int .u32 0)).setCell ⟨B,10,none⟩ (.int .i64 0)).drew:=RTo.eight ⟨H2.out.rd,HBT.out⟩ zeroO 0
    revert h3
    generalize World.drew _=W3
    intro h3
    obtain ⟨v3,hB3,hs3⟩:=h3.rd.at_
    obtain ⟨a3,q3,rfl⟩:=hs3.len
    have t0:=hB3.cells.1
    have g0:=hB3.froz 0
    have hz3:=hs3.zero
    have H3:=Lib.hid (h3.again hs3)
    clear h3 hB3 hs3
    go_wp2_with fail
    go_end0
    exact ⟨rfl,H3.out⟩
set_option maxRecDepth 512
theorem fail_zero (s:RS):failS s 0=s:=by
  unfold failS
  split
  · rename_i h;cases s;simp only at h;subst h;rfl
  · rfl
set_option maxRecDepth 100000
theorem doperands_some (w0:World) (L:Nat) (bs:Nat→Int) (hb:∀ i,0 ≤ bs i∧bs i < 256) (hL:L ≤ 1099511627776) (B:Nat) (s:RS) (u:World) (h:Rd w0 L bs B s u) (ht:s.told=false) (o:Opd) (r:Int) (n:Nat) (hr:rmF (L - s.k) (fun i=>bs (s.k+i))=some (o,r,n)) :
    Calls Tryz.prog 88 #[.pointer (some ⟨B,0,none⟩)] u fun e w'=>e=.returned (.tuple #[])∧RTo w0 L bs B { s with told:=true,rm:=o,reg:=r,k:=s.k+n } u w':=by
  obtain ⟨v,hB,hs⟩:=h.at_
  obtain ⟨a,q,rfl⟩:=hs.len
  obtain ⟨c0,c1,c2,c3⟩:=hB.cells
  have hR:=mrread_any _ (L - s.k) _ (fun i=>hb (s.k+i)) u (hs.below h.below) (by unfold maxLen;omega)
  rw [rmV_some hr] at hR
  have hn:=(rm_three hr).1
  have hk:=h.le
  have HR:=Lib.hid hR
  have H:=Lib.hid h
  have HF:=Lib.hid (fun (w1:World) (h1:Rd w0 L bs B s w1)=>dfail_any 0 w0 L bs B s w1 h1)
  rw [ht] at c3
  clear h hB hs c1 c2 hb hL ht hr
  go_enter Tryz.func88,Tryz.ntmps88
  go_wp2_with fail
  refine HR.out.mono ?_
  rintro e w1 ⟨rfl,hb1⟩
  go_wp2_with fail
  refine (HF.out _ ((H.out.but (F:=fun _=>False) (But.of_below hb1) (fun _ h=>h.elim) (fun h=>h)).alloc _)).mono ?_
  rintro e w2 ⟨rfl,h2⟩
  rw [fail_zero] at h2
  obtain ⟨v2,hB2,hs2⟩:=h2.rd.at_
  obtain ⟨a2,q2,rfl⟩:=hs2.len
  obtain ⟨x0,x1,x2,x3⟩:=hB2.cells
  obtain ⟨x4,x5,x6,x7,x8,x9,x10⟩:=hB2.cells'
  have y0:=hB2.froz 0
  have y3:=hB2.froz 3
  have y4:=hB2.froz 4
  have y5:=hB2.froz 5
  have y6:=hB2.froz 6
  have y7:=hB2.froz 7
  have y8:=hB2.froz 8
  have y9:=hB2.froz 9
  have y10:=hB2.froz 10
  obtain ⟨o0,o1,o2,o3,o4,o5⟩:=six_but h2.but (by have:=H.out.lt;have:=hb1.size;omega)
  have hne:B ≠ w1.heap.size:=by have:=H.out.lt;have:=hb1.size;omega
  have hne':w1.heap.size ≠ B:=fun e=>hne e.symm
  have H2:=Lib.hid h2
  have HBT:=Lib.hid (show But (·=B) u w2 from ((But.of_below hb1).alloc _).trans h2.but (fun _ _ h=>h))
  clear h2 hB2 hs2 hb1
  go_wp2_with fail
  go_region
  all_goals
    have h3:RTo w0 L bs B { s with told:=true,rm:=o,reg:=r } u ((((((((w2.setCell ⟨B,3,none⟩ (.bool true)).setCell ⟨B,4,none⟩ (.int .i64 o.kind)).setCell ⟨B,5,none⟩ (.int .i64 o.reg)).setCell ⟨B,6,none⟩ (.int .i64 o.base)).setCell ⟨B,7,none⟩ (.int .i64 o.index)).setCell ⟨B,8,none⟩ (.int .i64 o.scale)).setCell ⟨B,9,none⟩ (.int .u32 o.disp)).setCell ⟨B,10,none⟩ (.int .i64 r)).drew:=RTo.eight ⟨H2.out.rd,HBT.out⟩ o r
    revert h3
    generalize World.drew _=W3
    intro h3
    obtain ⟨v3,hB3,hs3⟩:=h3.rd.at_
    obtain ⟨a3,q3,rfl⟩:=hs3.len
    have t0:=hB3.cells.1
    have g0:=hB3.froz 0
    by_cases hn0:n=0
    · subst hn0
      have hz3:=hs3.zero
      have H3:=Lib.hid (h3.again hs3)
      clear h3 hB3 hs3 hn hk
      go_wp2_with fail
      go_end0
      exact ⟨rfl,H3.out⟩
    rcases hs3 with ⟨_,h03⟩ | ⟨ad,cap,he3,hl3,hc3⟩
    · have h04:L - s.k=0:=h03
      omega
    · injection he3 with e1 e2 e3
      subst e1 e3
      have hz3:=fun W=>slice_tail ad (L - s.k) q3 n n rfl hn W
      have hs4:=slc_tail hc3 hl3 n hn
      have hle:s.k+n ≤ L:=by omega
      have H3:=Lib.hid (h3.rest (t:={ s with told:=true,rm:=o,reg:=r,k:=s.k+n }) _ (by show Slc .u8 w0 _ (L - (s.k+n)) (fun i=>bs (s.k+n+i));rw [← Nat.sub_sub];exact hs4.congr (fun i _=>by show bs (s.k+(n+i))=_;rw [Nat.add_assoc])) hle (fun _=>rfl))
      have q1:(n:Int) ≤ (L - s.k:Nat):=by omega
      clear h3 hB3 hl3 hc3 hs4 hn hk
      go_wp2_with fail
      go_end0
      exact ⟨rfl,H3.out⟩
set_option maxRecDepth 512
theorem doperands_any (w0:World) (L:Nat) (bs:Nat→Int) (hb:∀ i,0 ≤ bs i∧bs i < 256) (hL:L ≤ 1099511627776) (B:Nat) (s:RS) (u:World) (h:Rd w0 L bs B s u) :
    Calls Tryz.prog 88 #[.pointer (some ⟨B,0,none⟩)] u fun e w'=>e=.returned (.tuple #[])∧RTo w0 L bs B (rdS L bs s) u w':=by
  by_cases ht:s.told=true
  · rw [show rdS L bs s=s by unfold rdS;rw [if_pos ht]]
    obtain ⟨v,hB,hs⟩:=h.at_
    obtain ⟨c0,c1,c2,c3⟩:=hB.cells
    have H:=Lib.hid (RTo.refl h)
    rw [ht] at c3
    clear h hB hs c0 c1 c2 ht hb
    go_enter Tryz.func88,Tryz.ntmps88
    go_wp2
    refine bodyPost_ret (results_none rfl _ _ _) rfl ?_
    exact ⟨rfl,H.out⟩
  · replace ht:s.told=false:=Bool.eq_false_iff.2 ht
    cases hr:rmF (L - s.k) (fun i=>bs (s.k+i)) with
    | none =>
      rw [show rdS L bs s={ failS s 21 with told:=true,rm:=zeroO,reg:=0 } by unfold rdS;rw [ht,hr];rfl]
      exact doperands_none w0 L bs hb hL B s u h ht hr
    | some x =>
      obtain ⟨o,r,n⟩:=x
      rw [show rdS L bs s={ s with told:=true,rm:=o,reg:=r,k:=s.k+n } by unfold rdS;rw [ht,hr];rfl]
      exact doperands_some w0 L bs hb hL B s u h ht o r n hr
end
section
open Go.ChangeShapes Go.WideShapes Go.ChangeAt Go.RowKit
theorem i64_and_nat (a b:Nat) (ha:a < 9223372036854775808) (hb:b < 9223372036854775808):bits .and .i64 (a:Int) (b:Int)=((a &&& b:Nat):Int):=by
  have hx:a &&& b < 2 ^ 63:=Nat.and_lt_two_pow _ (by omega)
  show IntKind.i64.wrap ((BitVec.ofInt 64 (a:Int) &&& BitVec.ofInt 64 (b:Int)).toNat:Int)=_
  rw [BitVec.toNat_and,ofInt_u64 a (by omega),ofInt_u64 b (by omega),IntKind.wrap_i64]
  omega
theorem and_low_i (z:Int) (m:Nat) (h0:0 ≤ z) (h1:z < 256) (hm:m ≤ 8):bits .and .i64 z ((2 ^ m - 1:Nat):Int)=z % ((2 ^ m:Nat):Int):=by
  obtain ⟨k,rfl⟩:=Int.eq_ofNat_of_zero_le h0
  have hp:2 ^ m ≤ 2 ^ 8:=Nat.pow_le_pow_right (by decide) hm
  rw [i64_and_nat k (2 ^ m - 1) (by omega) (by omega),Nat.and_two_pow_sub_one_eq_mod]
  rfl
def partV:Prt→Value
  | .place=>.func (.func 67) #[] #[]
  | .memory=>.func (.func 91) #[] #[]
  | .register=>.func (.func 66) #[] #[]
  | .whole=>.func (.func 69) #[] #[]
  | .double=>.func (.func 70) #[] #[]
  | .named=>.func (.func 78) #[] #[]
  | .first=>.func (.func 90) #[] #[]
  | .counter=>.func (.func 76) #[] #[]
  | .fixed=>.func (.func 92) #[] #[]
  | .number=>.func (.func 68) #[] #[]
  | .short=>.func (.func 74) #[] #[]
  | .half=>.func (.func 93) #[] #[]
  | .once=>.func (.func 75) #[] #[]
def partO:Option Prt→Value
  | none=>.nilFunc
  | some p=>partV p
def Reads (F:Nat) (p:Prt):Prop:=∀ (w0:World) (L:Nat) (bs:Nat→Int) (_:∀ i,0 ≤ bs i∧bs i < 256) (_:L ≤ 1099511627776) (B:Nat) (s:RS) (_:0 ≤ s.opc∧s.opc < 256) (size:Int) (u:World) (_:Rd w0 L bs B s u),
    Calls Tryz.prog F #[.pointer (some ⟨B,0,none⟩),.int .i64 size] u fun e w'=>e=.returned (opV (partS L bs p size s).1)∧RTo w0 L bs B (partS L bs p size s).2 u w'
theorem six_but_size {w w2:World} {F:Nat→Prop} {o:Obj} (h:But F (w.alloc o) w2):w.heap.size < w2.heap.size:=by
  have:=h.size
  simp at this
  omega
theorem RTo.cells {w0:World} {L:Nat} {bs:Nat→Int} {B:Nat} {s:RS} {u w':World} (h:RTo w0 L bs B s u w') {R:Nat} (hR:u.heap.size ≤ R) (hB:B < u.heap.size) (vs:List Value) (o:Nat):RTo w0 L bs B s u (w'.setCells R o vs):=by
  induction vs generalizing w' o with
  | nil=>exact h
  | cons v vs ih=>exact ih (h.cell R o v hR hB) (o+1)
theorem there_to {w0:World} {L:Nat} {bs:Nat→Int} {B:Nat} {s:RS} {u w':World} {C:Array Value} {T:TypeId} {n:Nat} (h:RTo w0 L bs B s (u.alloc (.cells C T)) w') (hB:B < u.heap.size) (hn:n ≤ C.size):w'.there u.heap.size 0 n :=
  there_but h.but (by omega) (by simp) (there_alloc_new u C T n hn)
theorem RTo.first {w0:World} {L:Nat} {bs:Nat→Int} {B:Nat} {s:RS} {u w':World} {o:Obj} (h:RTo w0 L bs B s (u.alloc o) w'):RTo w0 L bs B s u w':=⟨h.rd,((But.refl _ _).alloc o).trans h.but (fun _ _ h=>h)⟩
theorem dplace_any:Reads 67 .place:=by
  intro w0 L bs hb hL B s ho size u h
  show Calls _ _ _ _ fun e w'=>e=.returned (opV (placeO (rdS L bs s).rm size))∧RTo w0 L bs B (rdS L bs s) u w'
  have HO:=Lib.hid (fun o=>doperands_any w0 L bs hb hL B s (u.alloc o) (h.alloc o))
  have hlt:=h.lt
  clear h hb ho hL
  generalize rdS L bs s=t at HO ⊢
  go_enter Tryz.func67,Tryz.ntmps67
  go_wp2_with fail
  refine (HO.out _).mono ?_
  rintro e w1 ⟨rfl,h1⟩
  obtain ⟨v1,hB1,hs1⟩:=h1.rd.at_
  obtain ⟨x4,x5,x6,x7,x8,x9,x10⟩:=hB1.cells'
  have hsz:=six_but_size h1.but
  have HT:=Lib.hid (there_to (n:=6) h1 hlt (by decide))
  have H1:=Lib.hid h1.first
  clear h1 hB1 hs1 x10
  by_cases hk:t.rm.kind=1
  · have hp:=Lib.hid (show placeO t.rm size={ t.rm with kind:=kindF size } by unfold placeO;rw [if_pos hk])
    rw [hk] at x4
    clear hk
    go_wp2_with fail
    refine (dkind_any _ _).mono ?_
    rintro e w2 ⟨rfl,rfl⟩
    go_wp2_with (refine store_opd rfl (.tmp 4) (.tmp 18) rfl u.heap.size rfl ⟨kindF size,t.rm.reg,t.rm.base,t.rm.index,t.rm.scale,t.rm.disp⟩ rfl (there_alloc _ hsz HT.out) ?_;intro Y hY hl;have HY:=Lib.hid hY;have HL:=Lib.hid hl;clear hY hl)
    refine bodyPost_ret (results_cell rfl rfl HL.out) rfl ⟨by rw [hp.out],?_⟩
    rw [HY.out]
    exact (H1.out.alloc _).cells (Nat.le_refl _) hlt _ _
  · have hp:=Lib.hid (show placeO t.rm size=t.rm by unfold placeO;rw [if_neg hk])
    have ek:(t.rm.kind == 1)=false:=by simpa using hk
    clear hk
    go_wp2_with (refine store_opd rfl (.tmp 4) (.tmp 18) rfl u.heap.size rfl t.rm rfl (there_alloc _ hsz HT.out) ?_;intro Y hY hl;have HY:=Lib.hid hY;have HL:=Lib.hid hl;clear hY hl)
    refine bodyPost_ret (results_cell rfl rfl HL.out) rfl ⟨by rw [hp.out],?_⟩
    rw [HY.out]
    exact (H1.out.alloc _).cells (Nat.le_refl _) hlt _ _
set_option maxRecDepth 100000
set_option maxHeartbeats 1000000
theorem dmemory_any:Reads 91 .memory:=by
  intro w0 L bs hb hL B s ho size u h
  show Calls _ _ _ _ fun e w'=>e=.returned (opV (placeO (rdS L bs s).rm size))∧RTo w0 L bs B (if (placeO (rdS L bs s).rm size).kind=3 then rdS L bs s else failS (rdS L bs s) 22) u w'
  have HO:=Lib.hid (fun o=>dplace_any w0 L bs hb hL B s ho size (u.alloc o) (h.alloc o))
  have hlt:=h.lt
  clear h hb ho hL
  have HO:Hid (∀ o,Calls Tryz.prog 67 #[.pointer (some ⟨B,0,none⟩),.int .i64 size] (u.alloc o) fun e w'=>e=.returned (opV (placeO (rdS L bs s).rm size))∧RTo w0 L bs B (rdS L bs s) (u.alloc o) w'):=HO
  generalize rdS L bs s=t at HO ⊢
  generalize placeO t.rm size=q at HO ⊢
  obtain ⟨m,hm⟩:∃ m,(if q.kind=3 then t else failS t 22)=m:=⟨_,rfl⟩
  rw [hm]
  have HM:=Lib.hid hm
  clear hm
  go_enter Tryz.func91,Tryz.ntmps91
  go_wp2_with fail
  refine (HO.out _).mono ?_
  rintro e w1 ⟨rfl,h1⟩
  unfold opV
  have hsz:=six_but_size h1.but
  have HT:=Lib.hid (there_to (n:=6) h1 hlt (by decide))
  have hBlt:=h1.rd.lt
  have H1:=Lib.hid h1.first
  have HF:=Lib.hid (fun o=>dfail_any 22 w0 L bs B t (w1.alloc o) (h1.rd.alloc o))
  clear h1 HO
  by_cases hk:q.kind=3
  · have hp:=Lib.hid (show m=t by rw [← HM.out,if_pos hk])
    have ek:(q.kind != 3)=false:=by simpa using hk
    clear hk
    go_wp2_with (refine store_opd rfl (.tmp 4) (.tmp 14) rfl u.heap.size rfl q rfl (there_alloc _ hsz HT.out) ?_;intro Y hY hl;have HY:=Lib.hid hY;have HL:=Lib.hid hl;clear hY hl)
    refine bodyPost_ret (results_cell rfl rfl HL.out) rfl ⟨rfl,?_⟩
    rw [HY.out,hp.out]
    exact (H1.out.alloc _).cells (Nat.le_refl _) hlt _ _
  · have hp:=Lib.hid (show m=failS t 22 by rw [← HM.out,if_neg hk])
    have ek:(q.kind != 3)=true:=by simpa using hk
    clear hk
    go_wp2_with fail
    refine (HF.out _).mono ?_
    rintro e w2 ⟨rfl,h2⟩
    obtain ⟨o0,o1,o2,o3,o4,o5⟩:=six_but h2.but hBlt
    have HT2:=Lib.hid (there_but h2.but (by omega) (by simp;omega) (there_alloc (.cells #[.int .i64 q.kind,.int .i64 q.reg,.int .i64 q.base,.int .i64 q.index,.int .i64 q.scale,.int .u32 q.disp] 24) hsz HT.out))
    have H2:=Lib.hid ((H1.out.alloc _).trans h2)
    clear h2
    go_wp2_with (refine store_opd rfl (.tmp 4) (.tmp 14) rfl u.heap.size rfl q rfl (HT2.out) ?_;intro Y hY hl;have HY:=Lib.hid hY;have HL:=Lib.hid hl;clear hY hl)
    refine bodyPost_ret (results_cell rfl rfl HL.out) rfl ⟨rfl,?_⟩
    rw [HY.out,hp.out]
    exact H2.out.cells (Nat.le_refl _) hlt _ _
theorem dregister_any:Reads 66 .register:=by
  intro w0 L bs hb hL B s ho size u h
  show Calls _ _ _ _ fun e w'=>e=.returned (opV (aloneO (kindF size) (rdS L bs s).reg 0))∧RTo w0 L bs B (rdS L bs s) u w'
  have HO:=Lib.hid (fun o=>doperands_any w0 L bs hb hL B s (u.alloc o) (h.alloc o))
  have hlt:=h.lt
  clear h hb ho hL
  generalize rdS L bs s=t at HO ⊢
  go_enter Tryz.func66,Tryz.ntmps66
  go_wp2_with fail
  refine (HO.out _).mono ?_
  rintro e w1 ⟨rfl,h1⟩
  obtain ⟨v1,hB1,hs1⟩:=h1.rd.at_
  obtain ⟨x4,x5,x6,x7,x8,x9,x10⟩:=hB1.cells'
  have hsz:=six_but_size h1.but
  obtain ⟨o0,o1,o2,o3,o4,o5⟩:=six_but h1.but hlt
  have z0:=six_but_froz h1.but hlt 0
  have z1:=six_but_froz h1.but hlt 1
  have z2:=six_but_froz h1.but hlt 2
  have z3:=six_but_froz h1.but hlt 3
  have z4:=six_but_froz h1.but hlt 4
  have z5:=six_but_froz h1.but hlt 5
  have HT:=Lib.hid (there_to (n:=6) h1 hlt (by decide))
  have H1:=Lib.hid h1.first
  clear h1 hB1 hs1 x4 x5 x6 x7 x8 x9 HO
  go_wp2_with fail
  go_region_with (first | (go_at_call 89;(with_reducible refine (dkind_any _ _).mono ?_);rintro e w' ⟨rfl,rfl⟩) | (go_at_call 54;(with_reducible refine (dalone_any _ _ _ _).mono ?_);rintro e w' ⟨rfl,rfl⟩))
  all_goals
    have h4:RTo w0 L bs B t u ((w1.setCells u.heap.size 0 (opL' (aloneO (kindF size) t.reg 0))).alloc (.cells #[.int .i64 (kindF size),.int .i64 t.reg,.int .i64 (-1),.int .i64 (-1),.int .i64 1,.int .u32 0] 24)).drew:=((H1.out.cells (Nat.le_refl _) hlt _ _).alloc _).drew
    have hl:=load_opd hsz HT.out (aloneO (kindF size) t.reg 0) (.cells #[.int .i64 (kindF size),.int .i64 t.reg,.int .i64 (-1),.int .i64 (-1),.int .i64 1,.int .u32 0] 24)
    rw [show opL' (aloneO (kindF size) t.reg 0)=[.int .i64 (kindF size),.int .i64 t.reg,.int .i64 (-1),.int .i64 (-1),.int .i64 1,.int .u32 0] from rfl] at h4 hl
    simp only [World.setCells] at h4 hl
    revert h4 hl
    generalize World.drew _=W
    intro h4 hl
    have H4:=Lib.hid h4
    have HL:=Lib.hid hl
    clear h4 hl
    go_wp2_with fail
    exact bodyPost_ret (results_cell rfl rfl HL.out) rfl ⟨rfl,H4.out⟩
theorem dwhole_any:Reads 69 .whole:=by
  intro w0 L bs hb hL B s ho size u h
  show Calls _ _ _ _ fun e w'=>e=.returned (opV (aloneO 1 (rdS L bs s).reg 0))∧RTo w0 L bs B (rdS L bs s) u w'
  have HO:∀ o,Calls Tryz.prog 66 #[.pointer (some ⟨B,0,none⟩),.int .i64 4] (u.alloc o) fun e w'=>e=.returned (opV (aloneO 1 (rdS L bs s).reg 0))∧RTo w0 L bs B (rdS L bs s) (u.alloc o) w':=fun o=>dregister_any w0 L bs hb hL B s ho 4 (u.alloc o) (h.alloc o)
  have hlt:=h.lt
  clear h hb ho hL
  generalize rdS L bs s=t at HO ⊢
  have HO:=Lib.hid HO
  go_enter Tryz.func69,Tryz.ntmps69
  go_wp2_with fail
  refine (HO.out _).mono ?_
  rintro e w1 ⟨rfl,h1⟩
  have HT:=Lib.hid (there_to (n:=6) h1 hlt (by decide))
  have H1:=Lib.hid h1.first
  clear h1
  go_wp2_with (refine store_opd rfl (.tmp 4) (.tmp 6) rfl u.heap.size rfl (aloneO 1 t.reg 0) rfl (HT.out) ?_;intro Y hY hl;have HY:=Lib.hid hY;have HL:=Lib.hid hl;clear hY hl)
  refine bodyPost_ret (results_cell rfl rfl HL.out) rfl ⟨rfl,?_⟩
  rw [HY.out]
  exact H1.out.cells (Nat.le_refl _) hlt _ _
theorem ddouble_any:Reads 70 .double:=by
  intro w0 L bs hb hL B s ho size u h
  show Calls _ _ _ _ fun e w'=>e=.returned (opV (aloneO 5 (rdS L bs s).reg 0))∧RTo w0 L bs B (rdS L bs s) u w'
  have HO:∀ o,Calls Tryz.prog 66 #[.pointer (some ⟨B,0,none⟩),.int .i64 8] (u.alloc o) fun e w'=>e=.returned (opV (aloneO 5 (rdS L bs s).reg 0))∧RTo w0 L bs B (rdS L bs s) (u.alloc o) w':=fun o=>dregister_any w0 L bs hb hL B s ho 8 (u.alloc o) (h.alloc o)
  have hlt:=h.lt
  clear h hb ho hL
  generalize rdS L bs s=t at HO ⊢
  have HO:=Lib.hid HO
  go_enter Tryz.func70,Tryz.ntmps70
  go_wp2_with fail
  refine (HO.out _).mono ?_
  rintro e w1 ⟨rfl,h1⟩
  have HT:=Lib.hid (there_to (n:=6) h1 hlt (by decide))
  have H1:=Lib.hid h1.first
  clear h1
  go_wp2_with (refine store_opd rfl (.tmp 4) (.tmp 6) rfl u.heap.size rfl (aloneO 5 t.reg 0) rfl (HT.out) ?_;intro Y hY hl;have HY:=Lib.hid hY;have HL:=Lib.hid hl;clear hY hl)
  refine bodyPost_ret (results_cell rfl rfl HL.out) rfl ⟨rfl,?_⟩
  rw [HY.out]
  exact H1.out.cells (Nat.le_refl _) hlt _ _
theorem dnamed_any:Reads 78 .named:=by
  intro w0 L bs hb hL B s ho size u h
  show Calls _ _ _ _ fun e w'=>e=.returned (opV (aloneO (kindF size) (s.opc % 8) 0))∧RTo w0 L bs B s u w'
  have hlt:=h.lt
  have H:=Lib.hid (RTo.refl h)
  obtain ⟨v,hB,hs⟩:=h.at_
  obtain ⟨c0,c1,_⟩:=hB.cells
  have a7:bits .and .i64 s.opc 7=s.opc % 8:=and_low_i s.opc 3 ho.1 ho.2 (by decide)
  clear h hb ho hL hB hs c0
  go_enter Tryz.func78,Tryz.ntmps78
  go_wp2_with fail
  go_region_with (first | (go_at_call 89;(with_reducible refine (dkind_any _ _).mono ?_);rintro e w' ⟨rfl,rfl⟩) | (go_at_call 54;(with_reducible refine (dalone_any _ _ _ _).mono ?_);rintro e w' ⟨rfl,rfl⟩))
  all_goals
    go_wp2_with fail
    go_returns
    exact ⟨rfl,((H.out.alloc _).alloc _).drew⟩
theorem dfirst_any:Reads 90 .first:=by
  intro w0 L bs hb hL B s ho size u h
  show Calls _ _ _ _ fun e w'=>e=.returned (opV (aloneO (kindF size) 0 0))∧RTo w0 L bs B s u w'
  have hlt:=h.lt
  have H:=Lib.hid (RTo.refl h)
  clear h hb ho hL
  go_enter Tryz.func90,Tryz.ntmps90
  go_wp2_with (first | (go_at_call 89;(with_reducible refine (dkind_any _ _).mono ?_);rintro e w' ⟨rfl,rfl⟩) | (go_at_call 54;(with_reducible refine (dalone_any _ _ _ _).mono ?_);rintro e w' ⟨rfl,rfl⟩) | (refine store_opd rfl (.tmp 4) (.tmp 7) rfl u.heap.size rfl (aloneO (kindF size) 0 0) rfl (there_alloc _ (by simp) (there_alloc_new _ _ _ _ (by decide))) ?_;intro Y hY hl;have HY:=Lib.hid hY;have HL:=Lib.hid hl;clear hY hl))
  refine bodyPost_ret (results_cell rfl rfl HL.out) rfl ⟨rfl,?_⟩
  rw [HY.out]
  exact ((H.out.alloc _).alloc _).cells (Nat.le_refl _) hlt _ _
theorem dcounter_any:Reads 76 .counter:=by
  intro w0 L bs hb hL B s ho size u h
  show Calls _ _ _ _ fun e w'=>e=.returned (opV (aloneO 2 1 0))∧RTo w0 L bs B s u w'
  have hlt:=h.lt
  have H:=Lib.hid (RTo.refl h)
  clear h hb ho hL
  go_enter Tryz.func76,Tryz.ntmps76
  go_wp2_with (first | (go_at_call 54;(with_reducible refine (dalone_any _ _ _ _).mono ?_);rintro e w' ⟨rfl,rfl⟩) | (refine store_opd rfl (.tmp 4) (.tmp 5) rfl u.heap.size rfl (aloneO 2 1 0) rfl (there_alloc _ (by simp) (there_alloc_new _ _ _ _ (by decide))) ?_;intro Y hY hl;have HY:=Lib.hid hY;have HL:=Lib.hid hl;clear hY hl))
  refine bodyPost_ret (results_cell rfl rfl HL.out) rfl ⟨rfl,?_⟩
  rw [HY.out]
  exact ((H.out.alloc _).alloc _).cells (Nat.le_refl _) hlt _ _
theorem donce_any:Reads 75 .once:=by
  intro w0 L bs hb hL B s ho size u h
  show Calls _ _ _ _ fun e w'=>e=.returned (opV (aloneO 4 0 1))∧RTo w0 L bs B s u w'
  have hlt:=h.lt
  have H:=Lib.hid (RTo.refl h)
  clear h hb ho hL
  go_enter Tryz.func75,Tryz.ntmps75
  go_wp2_with (first | (go_at_call 54;(with_reducible refine (dalone_any _ _ _ _).mono ?_);rintro e w' ⟨rfl,rfl⟩) | (refine store_opd rfl (.tmp 4) (.tmp 5) rfl u.heap.size rfl (aloneO 4 0 1) rfl (there_alloc _ (by simp) (there_alloc_new _ _ _ _ (by decide))) ?_;intro Y hY hl;have HY:=Lib.hid hY;have HL:=Lib.hid hl;clear hY hl))
  refine bodyPost_ret (results_cell rfl rfl HL.out) rfl ⟨rfl,?_⟩
  rw [HY.out]
  exact ((H.out.alloc _).alloc _).cells (Nat.le_refl _) hlt _ _
theorem dfixed_any:Reads 92 .fixed:=by
  intro w0 L bs hb hL B s ho size u h
  show Calls _ _ _ _ fun e w'=>e=.returned (opV (aloneO 3 0 (numS L bs 4 s).1))∧RTo w0 L bs B (numS L bs 4 s).2 u w'
  have HO:∀ o,Calls Tryz.prog 64 #[.pointer (some ⟨B,0,none⟩),.int .i64 4] (u.alloc o) fun e w'=>e=.returned (.int .u32 (numS L bs 4 s).1)∧RTo w0 L bs B (numS L bs 4 s).2 (u.alloc o) w':=fun o=>dnumber_any 4 4 rfl (by decide) (by decide) w0 L bs hb B s (u.alloc o) (h.alloc o)
  have hlt:=h.lt
  clear h hb ho hL
  generalize numS L bs 4 s=p at *
  obtain ⟨x,t⟩:=p
  replace HO:∀ o,Calls Tryz.prog 64 #[.pointer (some ⟨B,0,none⟩),.int .i64 4] (u.alloc o) fun e w'=>e=.returned (.int .u32 x)∧RTo w0 L bs B t (u.alloc o) w':=HO
  have HO:=Lib.hid HO
  show Calls _ _ _ _ fun e w'=>e=.returned (opV (aloneO 3 0 x))∧RTo w0 L bs B t u w'
  go_enter Tryz.func92,Tryz.ntmps92
  go_wp2_with fail
  refine (HO.out _).mono ?_
  rintro e w1 ⟨rfl,h1⟩
  have hsz:=six_but_size h1.but
  have HT:=Lib.hid (there_to (n:=6) h1 hlt (by decide))
  have H1:=Lib.hid h1.first
  clear h1
  go_wp2_with (first | (go_at_call 54;(with_reducible refine (dalone_any _ _ _ _).mono ?_);rintro e w' ⟨rfl,rfl⟩) | (refine store_opd rfl (.tmp 4) (.tmp 7) rfl u.heap.size rfl (aloneO 3 0 x) rfl (there_alloc _ hsz HT.out) ?_;intro Y hY hl;have HY:=Lib.hid hY;have HL:=Lib.hid hl;clear hY hl))
  refine bodyPost_ret (results_cell rfl rfl HL.out) rfl ⟨rfl,?_⟩
  rw [HY.out]
  exact (H1.out.alloc _).cells (Nat.le_refl _) hlt _ _
theorem dhalf_any:Reads 93 .half:=by
  intro w0 L bs hb hL B s ho size u h
  show Calls _ _ _ _ fun e w'=>e=.returned (opV (aloneO 4 0 (numS L bs 2 s).1))∧RTo w0 L bs B (numS L bs 2 s).2 u w'
  have HO:∀ o,Calls Tryz.prog 64 #[.pointer (some ⟨B,0,none⟩),.int .i64 2] (u.alloc o) fun e w'=>e=.returned (.int .u32 (numS L bs 2 s).1)∧RTo w0 L bs B (numS L bs 2 s).2 (u.alloc o) w':=fun o=>dnumber_any 2 2 rfl (by decide) (by decide) w0 L bs hb B s (u.alloc o) (h.alloc o)
  have hlt:=h.lt
  clear h hb ho hL
  generalize numS L bs 2 s=p at *
  obtain ⟨x,t⟩:=p
  replace HO:∀ o,Calls Tryz.prog 64 #[.pointer (some ⟨B,0,none⟩),.int .i64 2] (u.alloc o) fun e w'=>e=.returned (.int .u32 x)∧RTo w0 L bs B t (u.alloc o) w':=HO
  have HO:=Lib.hid HO
  show Calls _ _ _ _ fun e w'=>e=.returned (opV (aloneO 4 0 x))∧RTo w0 L bs B t u w'
  go_enter Tryz.func93,Tryz.ntmps93
  go_wp2_with fail
  refine (HO.out _).mono ?_
  rintro e w1 ⟨rfl,h1⟩
  have hsz:=six_but_size h1.but
  have HT:=Lib.hid (there_to (n:=6) h1 hlt (by decide))
  have H1:=Lib.hid h1.first
  clear h1
  go_wp2_with (first | (go_at_call 54;(with_reducible refine (dalone_any _ _ _ _).mono ?_);rintro e w' ⟨rfl,rfl⟩) | (refine store_opd rfl (.tmp 4) (.tmp 7) rfl u.heap.size rfl (aloneO 4 0 x) rfl (there_alloc _ hsz HT.out) ?_;intro Y hY hl;have HY:=Lib.hid hY;have HL:=Lib.hid hl;clear hY hl))
  refine bodyPost_ret (results_cell rfl rfl HL.out) rfl ⟨rfl,?_⟩
  rw [HY.out]
  exact (H1.out.alloc _).cells (Nat.le_refl _) hlt _ _
set_option maxRecDepth 512
theorem short_sx (x:Int) (h0:0 ≤ x) (h1:x < 256):IntKind.u32.wrap (IntKind.i8.wrap x)=sx9 x:=by
  rw [IntKind.wrap_u32,sx9_wrap,Int.emod_eq_of_lt h0 h1]
set_option maxRecDepth 100000
theorem dshort_any:Reads 74 .short:=by
  intro w0 L bs hb hL B s ho size u h
  show Calls _ _ _ _ fun e w'=>e=.returned (opV (aloneO 4 0 (sx9 (numS L bs 1 s).1)))∧RTo w0 L bs B (numS L bs 1 s).2 u w'
  have HO:∀ o,Calls Tryz.prog 64 #[.pointer (some ⟨B,0,none⟩),.int .i64 1] (u.alloc o) fun e w'=>e=.returned (.int .u32 (numS L bs 1 s).1)∧RTo w0 L bs B (numS L bs 1 s).2 (u.alloc o) w':=fun o=>dnumber_any 1 1 rfl (by decide) (by decide) w0 L bs hb B s (u.alloc o) (h.alloc o)
  have hlt:=h.lt
  have hx:=numS_bd L bs hb 1 s
  clear h hb ho hL
  generalize numS L bs 1 s=p at *
  obtain ⟨x,t⟩:=p
  replace hx:0 ≤ x∧x < 256:=hx
  replace HO:∀ o,Calls Tryz.prog 64 #[.pointer (some ⟨B,0,none⟩),.int .i64 1] (u.alloc o) fun e w'=>e=.returned (.int .u32 x)∧RTo w0 L bs B t (u.alloc o) w':=HO
  have HO:=Lib.hid HO
  show Calls _ _ _ _ fun e w'=>e=.returned (opV (aloneO 4 0 (sx9 x)))∧RTo w0 L bs B t u w'
  have hsx:=short_sx x hx.1 hx.2
  generalize sx9 x=y at *
  go_enter Tryz.func74,Tryz.ntmps74
  go_wp2_with fail
  refine (HO.out _).mono ?_
  rintro e w1 ⟨rfl,h1⟩
  have hsz:=six_but_size h1.but
  have HT:=Lib.hid (there_to (n:=6) h1 hlt (by decide))
  have H1:=Lib.hid h1.first
  clear h1
  go_wp2_with (first | (go_at_call 54;(with_reducible refine (dalone_any _ _ _ _).mono ?_);rintro e w' ⟨rfl,rfl⟩) | (refine store_opd rfl (.tmp 4) (.tmp 9) rfl u.heap.size rfl (aloneO 4 0 y) rfl (there_alloc _ hsz HT.out) ?_;intro Y hY hl;have HY:=Lib.hid hY;have HL:=Lib.hid hl;clear hY hl))
  refine bodyPost_ret (results_cell rfl rfl HL.out) rfl ⟨rfl,?_⟩
  rw [HY.out]
  exact (H1.out.alloc _).cells (Nat.le_refl _) hlt _ _
theorem dnumb_any:Reads 68 .number:=by
  intro w0 L bs hb hL B s ho size u h
  show Calls _ _ _ _ fun e w'=>e=.returned (opV (aloneO 4 0 (numS L bs (if size=1 then 1 else 4) s).1))∧RTo w0 L bs B (numS L bs (if size=1 then 1 else 4) s).2 u w'
  by_cases h1s:size=1
  · rw [if_pos h1s]
    subst h1s
    have HO:∀ o,Calls Tryz.prog 64 #[.pointer (some ⟨B,0,none⟩),.int .i64 1] (u.alloc o) fun e w'=>e=.returned (.int .u32 (numS L bs 1 s).1)∧RTo w0 L bs B (numS L bs 1 s).2 (u.alloc o) w':=fun o=>dnumber_any 1 1 rfl (by decide) (by decide) w0 L bs hb B s (u.alloc o) (h.alloc o)
    have hlt:=h.lt
    clear h hb ho hL
    generalize numS L bs 1 s=p at *
    obtain ⟨x,t⟩:=p
    replace HO:∀ o,Calls Tryz.prog 64 #[.pointer (some ⟨B,0,none⟩),.int .i64 1] (u.alloc o) fun e w'=>e=.returned (.int .u32 x)∧RTo w0 L bs B t (u.alloc o) w':=HO
    have HO:=Lib.hid HO
    show Calls _ _ _ _ fun e w'=>e=.returned (opV (aloneO 4 0 x))∧RTo w0 L bs B t u w'
    go_enter Tryz.func68,Tryz.ntmps68
    go_wp2_with fail
    refine (HO.out _).mono ?_
    rintro e w1 ⟨rfl,h1⟩
    have hsz:=six_but_size h1.but
    have HT:=Lib.hid (there_to (n:=6) h1 hlt (by decide))
    have H1:=Lib.hid h1.first
    clear h1
    go_wp2_with (first | (go_at_call 54;(with_reducible refine (dalone_any _ _ _ _).mono ?_);rintro e w' ⟨rfl,rfl⟩) | (refine store_opd rfl (.tmp 4) (.tmp 11) rfl u.heap.size rfl (aloneO 4 0 x) rfl (there_alloc _ hsz HT.out) ?_;intro Y hY hl;have HY:=Lib.hid hY;have HL:=Lib.hid hl;clear hY hl))
    refine bodyPost_ret (results_cell rfl rfl HL.out) rfl ⟨rfl,?_⟩
    rw [HY.out]
    exact (H1.out.alloc _).cells (Nat.le_refl _) hlt _ _
  · rw [if_neg h1s]
    have es:(size == 1)=false:=by simpa using h1s
    clear h1s
    have HO:∀ o,Calls Tryz.prog 64 #[.pointer (some ⟨B,0,none⟩),.int .i64 4] (u.alloc o) fun e w'=>e=.returned (.int .u32 (numS L bs 4 s).1)∧RTo w0 L bs B (numS L bs 4 s).2 (u.alloc o) w':=fun o=>dnumber_any 4 4 rfl (by decide) (by decide) w0 L bs hb B s (u.alloc o) (h.alloc o)
    have hlt:=h.lt
    clear h hb ho hL
    generalize numS L bs 4 s=p at *
    obtain ⟨x,t⟩:=p
    replace HO:∀ o,Calls Tryz.prog 64 #[.pointer (some ⟨B,0,none⟩),.int .i64 4] (u.alloc o) fun e w'=>e=.returned (.int .u32 x)∧RTo w0 L bs B t (u.alloc o) w':=HO
    have HO:=Lib.hid HO
    show Calls _ _ _ _ fun e w'=>e=.returned (opV (aloneO 4 0 x))∧RTo w0 L bs B t u w'
    go_enter Tryz.func68,Tryz.ntmps68
    go_wp2_with fail
    refine (HO.out _).mono ?_
    rintro e w1 ⟨rfl,h1⟩
    have hsz:=six_but_size h1.but
    have HT:=Lib.hid (there_to (n:=6) h1 hlt (by decide))
    have H1:=Lib.hid h1.first
    clear h1
    go_wp2_with (first | (go_at_call 54;(with_reducible refine (dalone_any _ _ _ _).mono ?_);rintro e w' ⟨rfl,rfl⟩) | (refine store_opd rfl (.tmp 4) (.tmp 11) rfl u.heap.size rfl (aloneO 4 0 x) rfl (there_alloc _ hsz HT.out) ?_;intro Y hY hl;have HY:=Lib.hid hY;have HL:=Lib.hid hl;clear hY hl))
    refine bodyPost_ret (results_cell rfl rfl HL.out) rfl ⟨rfl,?_⟩
    rw [HY.out]
    exact (H1.out.alloc _).cells (Nat.le_refl _) hlt _ _
end
section
open Go.ChangeShapes Go.WideShapes Go.ChangeAt Go.RowKit
def partF:Prt→Nat
  | .place=>67
  | .memory=>91
  | .register=>66
  | .whole=>69
  | .double=>70
  | .named=>78
  | .first=>90
  | .counter=>76
  | .fixed=>92
  | .number=>68
  | .short=>74
  | .half=>93
  | .once=>75
theorem partV_F (p:Prt):partV p=.func (.func (partF p)) #[] #[]:=by cases p <;> rfl
theorem reads_any (p:Prt):Reads (partF p) p:=by
  cases p
  · exact dplace_any
  · exact dmemory_any
  · exact dregister_any
  · exact dwhole_any
  · exact ddouble_any
  · exact dnamed_any
  · exact dfirst_any
  · exact dcounter_any
  · exact dfixed_any
  · exact dnumb_any
  · exact dshort_any
  · exact dhalf_any
  · exact donce_any
theorem call_part (p:Prt) (a b:Value) (w:World):(callFunc (partF p) #[a,b]).run Tryz.prog w=.ok (.enter (partF p) #[a,b]) w:=by cases p <;> kernel_rfl
theorem fn_eql_nil (w:World):(binOp .eql 68 .nilFunc .nilFunc).run Tryz.prog w=.ok (.bool true) w:=by kernel_rfl
theorem fn_eql (F:Nat) (w:World):(binOp .eql 68 (.func (.func F) #[] #[]) .nilFunc).run Tryz.prog w=.ok (.bool false) w:=by kernel_rfl
set_option maxRecDepth 100000
set_option maxHeartbeats 1000000
theorem doperand_none (w0:World) (L:Nat) (bs:Nat→Int) (B:Nat) (s:RS) (size:Int) (u:World) (h:Rd w0 L bs B s u) :
    Calls Tryz.prog 25 #[.pointer (some ⟨B,0,none⟩),.nilFunc,.int .i64 size] u fun e w'=>e=.returned (opV noneO)∧RTo w0 L bs B s u w':=by
  have H:=Lib.hid (RTo.refl h)
  have hq:=fn_eql_nil
  clear h
  go_enter Tryz.func25,Tryz.ntmps25
  go_wp2_with (go_at_call 54;(with_reducible refine (dalone_any _ _ _ _).mono ?_);rintro e w' ⟨rfl,rfl⟩)
  go_returns
  exact ⟨rfl,(H.out.alloc _).alloc _⟩
theorem doperand_some (w0:World) (L:Nat) (bs:Nat→Int) (hb:∀ i,0 ≤ bs i∧bs i < 256) (hL:L ≤ 1099511627776) (B:Nat) (s:RS) (ho:0 ≤ s.opc∧s.opc < 256) (p:Prt) (size:Int) (u:World) (h:Rd w0 L bs B s u) :
    Calls Tryz.prog 25 #[.pointer (some ⟨B,0,none⟩),partV p,.int .i64 size] u fun e w'=>e=.returned (opV (partS L bs p size s).1)∧RTo w0 L bs B (partS L bs p size s).2 u w':=by
  rw [partV_F]
  have HO:=Lib.hid (fun o=>reads_any p w0 L bs hb hL B s ho size (u.alloc o) (h.alloc o))
  have hlt:=h.lt
  clear h hb ho hL
  generalize partS L bs p size s=x at *
  obtain ⟨q,t⟩:=x
  have hcf:=call_part p
  generalize partF p=F at *
  have HO:Hid (∀ o,Calls Tryz.prog F #[.pointer (some ⟨B,0,none⟩),.int .i64 size] (u.alloc o) fun e w'=>e=.returned (opV q)∧RTo w0 L bs B t (u.alloc o) w'):=HO
  show Calls _ _ _ _ fun e w'=>e=.returned (opV q)∧RTo w0 L bs B t u w'
  have hq:=fn_eql F
  go_enter Tryz.func25,Tryz.ntmps25
  go_wp2_with fail
  refine (HO.out _).mono ?_
  rintro e w1 ⟨rfl,h1⟩
  have HT:=Lib.hid (there_to (n:=6) h1 hlt (by decide))
  have H1:=Lib.hid h1.first
  clear h1
  go_wp2_with (refine store_opd rfl (.tmp 6) (.tmp 13) rfl u.heap.size rfl q rfl HT.out ?_;intro Y hY hl;have HY:=Lib.hid hY;have HL:=Lib.hid hl;clear hY hl)
  refine bodyPost_ret (results_cell rfl rfl HL.out) rfl ⟨rfl,?_⟩
  rw [HY.out]
  exact H1.out.cells (Nat.le_refl _) hlt _ _
set_option maxRecDepth 512
theorem doperand_any (w0:World) (L:Nat) (bs:Nat→Int) (hb:∀ i,0 ≤ bs i∧bs i < 256) (hL:L ≤ 1099511627776) (B:Nat) (s:RS) (ho:0 ≤ s.opc∧s.opc < 256) (p:Option Prt) (size:Int) (u:World) (h:Rd w0 L bs B s u) :
    Calls Tryz.prog 25 #[.pointer (some ⟨B,0,none⟩),partO p,.int .i64 size] u fun e w'=>e=.returned (opV (operS L bs p size s).1)∧RTo w0 L bs B (operS L bs p size s).2 u w':=by
  cases p with
  | none=>exact doperand_none w0 L bs B s size u h
  | some p=>exact doperand_some w0 L bs hb hL B s ho p size u h
end
section
open Go.RowKit
def mapE:List (Int × Int)→Nat→List MapEntry
  | [],_=>[]
  | (k,v) :: l,i=>{ key:=.int .i64 k,val:=.int .i64 v,born:=i } :: mapE l (i+1)
def pickE (key:Int):List (Int × Int)→Int
  | []=>0
  | (k,v) :: l=>if key=k then v else pickE key l
theorem find_mapE (key:Int):∀ (l:List (Int × Int)) (b i:Nat),(∃ j,Instr.findNow (.int .i64) (.int .i64 key) (mapE l b) i=some (some (j,.int .i64 (pickE key l)))) ∨ (Instr.findNow (.int .i64) (.int .i64 key) (mapE l b) i=some none∧pickE key l=0)
  | [],_,_=>.inr ⟨rfl,rfl⟩
  | (k,v) :: l,b,i=>by
    unfold mapE pickE Instr.findNow
    by_cases h:key=k
    · subst h
      rw [show Instr.sameNow (.int .i64) (.int .i64 key) (.int .i64 key)=some true by simp [Instr.sameNow]]
      exact .inl ⟨i,by simp⟩
    · rw [show Instr.sameNow (.int .i64) (.int .i64 key) (.int .i64 k)=some false by simp [Instr.sameNow,h],if_neg h]
      exact find_mapE key l (b+1) (i+1)
theorem intmap_get {P:Program} (w:World) (B:Nat) (hB:B=w.heap.size) (mty kt et:TypeId) (l:List (Int × Int)) (clock:Nat) (key:Int) (hm:P.underlying mty=some (.map kt et)) (hk:P.underlying kt=some (.int .i64)) (hz:∀ u,(zeroValue et).run P u=.ok (.int .i64 0) u) :
    (Instr.lookup mty (.map (some B)) (.int .i64 key) false).run P (w.alloc (.map (mapE l 0).toArray clock))=.ok (.int .i64 (pickE key l)) (w.alloc (.map (mapE l 0).toArray clock)):=by
  subst hB
  have hb:(w.alloc (.map (mapE l 0).toArray clock)).heap[w.heap.size]?=some (.map (mapE l 0).toArray clock):=by show (w.heap.push _)[w.heap.size]?=_;simp
  have hc:∀ e,(Instr.checkKey e 10000 kt (.int .i64 key)).run P (w.alloc (.map (mapE l 0).toArray clock))=.ok () (w.alloc (.map (mapE l 0).toArray clock)):=fun e=>MapKept.run_checkKey (k:=.int .i64 key) hk (by simp [MapKept.IsKey]) e 9999
  rcases find_mapE key l 0 0 with ⟨j,hf⟩ | ⟨hf,h0⟩
  · simp [Instr.lookup,run_underlying hm,MapKept.run_getObj_map hb,hc,MapKept.run_findKey hk hf,Result.andThen]
  · simp [Instr.lookup,run_underlying hm,MapKept.run_getObj_map hb,hc,MapKept.run_findKey hk hf,Result.andThen,hz,h0]
theorem zero_int (u:World):(zeroValue 3).run Tryz.prog u=.ok (.int .i64 0) u:=by kernel_rfl
end
end Go.Proofs.YtlnahkkemjgjbaaGreat
