import Derived.KernelRfl
import Derived.Great.BuildSlice
import Derived.Test.YtlnahkkemjgjbaaGreatKNH
namespace Go.Proofs.YtlnahkkemjgjbaaGreat
open Go.ChangeShapes Go.WideShapes Go.ChangeAt Go.RowKit
theorem append_ownA {w:World} {ops:Array Oper} {rest:List Oper} {o:Oper} {a:Act} {Q:Exit→Act→World→Prop}
    (hg:o.guard=none) (s x:Operand) (hop:o.op=Op.call { callee:=Callee.builtin Builtin.append,args:=#[s,x],argTypes:=#[30,30] })
    (base:Nat) (v1 v2:Value) (l1 l2:List Int) (hs:a.eval s=v1) (hx:a.eval x=v2) (h1:OwnB w base v1 l1) (h2:Slc .u8 w v2 l2.length (lst l2)) (hb:l1.length+l2.length ≤ 1000000) (hbase:base ≤ w.heap.size)
    (hK:∀ v' w',OwnB w' base v' (l1 ++ l2)→OwnB w' base v1 l1→(∀ W,Below base W w→Below base W w')→w.heap.size ≤ w'.heap.size→wpList Tryz.prog ops Q rest (a.put o.dst v') w') :
    wpList Tryz.prog ops Q (o :: rest) a w:=by
  by_cases h0:0 < l2.length
  · exact append_ownB hg s x hop base v1 v2 l1 l2 hs hx h1 h2 h0 hb hbase hK
  · obtain rfl:l2=[]:=List.eq_nil_of_length_eq_zero (by omega)
    have hk:=hK v1 w (by rw [List.append_nil];exact h1) h1 (fun W h=>h) (Nat.le_refl _)
    rcases h2 with ⟨rfl,_⟩ | ⟨b,c,rfl,_,_⟩
    · exact append_own0 hg s x hop base v1 l1 hs h1 none 0 hx hk
    · exact append_own0 hg s x hop base v1 l1 hs h1 (some b) c hx hk
def headsL:List (List Int):=[[1],[3],[0],[2],[5],[4],[17],[25],[33],[41],[49],[57],[11],[64],[73],[80],[90],[104],[106],[105],[107],[112],[128],[129],[131],[132],[133],[134],[135],[136],[137],[138],[139],[141],[143],[144],[147],[152],[153],[160],[161],[162],[163],[164],[165],[168],[169],[170],[171],[172],[173],[177],[185],[193],[194],[195],[198],[199],[201],[204],[209],[211],[232],[233],[235],[244],[245],[246],[247],[248],[249],[252],[253],[254],[255],[15,68],[15,133],[15,159],[15,175],[15,182],[15,183],[15,190],[15,191],[243,164],[243,165],[243,170],[243,171],[242,15,16],[242,15,17],[242,15,42],[242,15,44],[242,15,81],[242,15,88],[242,15,89],[242,15,92],[242,15,93],[242,15,94],[242,15,95],[102,15,46]]
def hdS (l:List Int):Value:=.string ⟨(l.map fun i=>UInt8.ofNat i.toNat).toArray⟩
def headsA:Array Value:=(headsL.map hdS).toArray
def headF (k:Int):List Int:=headsL.getD (k % 99).toNat []
theorem heads_all:headsL.all (fun l=>decide (1 ≤ l.length) && decide (l.length ≤ 3) && l.all fun i=>decide (0 ≤ i) && decide (i < 256))=true:=by kernel_rfl
theorem heads_len:headsL.length=99:=by kernel_rfl
theorem head_ok (k:Int):1 ≤ (headF k).length∧(headF k).length ≤ 3∧∀ i ∈ headF k,0 ≤ i∧i < 256:=by
  have hk:(k % 99).toNat < headsL.length:=by rw [heads_len];omega
  have hm:headF k ∈ headsL:=by
    unfold headF
    rw [List.getD_eq_getElem?_getD,List.getElem?_eq_getElem hk]
    exact List.getElem_mem hk
  have h:=List.all_eq_true.1 heads_all _ hm
  simp only [Bool.and_eq_true,decide_eq_true_eq,List.all_eq_true] at h
  exact ⟨h.1.1,h.1.2,h.2⟩
theorem heads_at (k:Int):headsA[(k % 99).toNat]?=some (hdS (headF k)):=by
  have hk:(k % 99).toNat < headsL.length:=by rw [heads_len];omega
  unfold headsA headF
  simp [List.getElem?_eq_getElem hk]
set_option maxRecDepth 100000
set_option maxHeartbeats 4000000
theorem heads_any (w:World):Calls Tryz.prog 19 #[] w fun e w'=>e=.returned (.slice (some ⟨w.heap.size,0,none⟩) 99 99)∧w'=w.alloc (.cells headsA 9):=by
  obtain ⟨ie,hie,hz,hsz⟩:∃ ie,Tryz.prog.info? 9=some ie∧ie.zero=some (.string ⟨#[]⟩)∧ie.size=1:=by
    have h:(Tryz.prog.info? 9).map (fun i=>(i.zero,i.size))=some (some (.string ⟨#[]⟩),1):=by kernel_rfl
    cases hi:Tryz.prog.info? 9 with
    | none=>rw [hi] at h;cases h
    | some i =>
      rw [hi] at h
      simp only [Option.map_some,Option.some.injEq,Prod.mk.injEq] at h
      exact ⟨i,rfl,h.1,h.2⟩
  go_enter Tryz.func19,Tryz.ntmps19
  go_wp2_with (refine wpList_buildSlice rfl 56 9 99 _ rfl headsA ie (.string ⟨#[]⟩) Tryz.underlying56 hie hz (by rw [hsz];decide) (by rw [hsz];decide) (by rw [hsz];kernel_rfl) ?_)
  go_ret
  exact ⟨rfl,rfl⟩
set_option maxRecDepth 512
theorem and63 (z:Int) (h0:0 ≤ z) (h1:z < 256):bits .and .u8 z 63=z % 64:=by
  obtain ⟨n,rfl⟩:=Int.eq_ofNat_of_zero_le h0
  have hn:n < 256:=by omega
  revert hn
  clear h0 h1
  revert n
  decide +kernel
theorem and127 (z:Int) (h0:0 ≤ z) (h1:z < 256):bits .and .u8 z 127=z % 128:=by
  obtain ⟨n,rfl⟩:=Int.eq_ofNat_of_zero_le h0
  have hn:n < 256:=by omega
  revert hn
  clear h0 h1
  revert n
  decide +kernel
def bytesF (k rm d:Int):List Int:=headF k ++ (if d % 4=0 then [rm,d % 256,d / 256 % 256,d / 65536 % 256,d / 16777216] else [rm,d % 128,0,0,0]) ++ [d / 8 % 64,0,0,0,0,0,0]
theorem bytesF_len (k rm d:Int):13 ≤ (bytesF k rm d).length∧(bytesF k rm d).length ≤ 15:=by
  obtain ⟨h1,h2,_⟩:=head_ok k
  unfold bytesF
  simp only [List.length_append]
  split <;> simp <;> omega
theorem bytesF_ok (k rm d:Int) (r0:0 ≤ rm) (r1:rm < 256) (d0:0 ≤ d) (d1:d < 4294967296):∀ x ∈ bytesF k rm d,0 ≤ x∧x < 256:=by
  intro x hx
  unfold bytesF at hx
  rcases List.mem_append.1 hx with hx | hx
  · rcases List.mem_append.1 hx with hx | hx
    · exact (head_ok k).2.2 x hx
    · split at hx
      · simp only [List.mem_cons,List.not_mem_nil,or_false] at hx
        rcases hx with rfl | rfl | rfl | rfl | rfl <;> omega
      · simp only [List.mem_cons,List.not_mem_nil,or_false] at hx
        rcases hx with rfl | rfl | rfl | rfl | rfl <;> omega
  · simp only [List.mem_cons,List.not_mem_nil,or_false] at hx
    rcases hx with rfl | rfl | rfl | rfl | rfl | rfl | rfl <;> omega
set_option maxRecDepth 100000
theorem bytes_any (k rm d:Int) (w:World) (k0:0 ≤ k) (k1:k < 256) (d0:0 ≤ d) (d1:d < 4294967296) :
    Calls Tryz.prog 6 #[.int .u8 k,.int .u8 rm,.int .u32 d] w fun e w'=>∃ v,e=.returned v∧OwnB w' w.heap.size v (bytesF k rm d)∧Below w.heap.size w w':=by
  have hh:=heads_at k
  have HO:=Lib.hid (head_ok k)
  have n1:bits .and .u8 (d / 8 % 256) 63=d / 8 % 64:=by rw [and63 _ (by omega) (by omega)];omega
  have n2:bits .and .u8 (d % 256) 127=d % 128:=by rw [and127 _ (by omega) (by omega)];omega
  go_enter Tryz.func6,Tryz.ntmps6
  go_wp2_with fail
  refine (heads_any _).mono ?_
  rintro e w' ⟨rfl,rfl⟩
  have HB0:=Lib.hid (show Below (w.heap.size+1) (w.alloc (.cells headsA 9)) (w.alloc (.cells headsA 9)) from Below.refl _ _)
  have HC:=Lib.hid (fun (u:World) (hu:Below (w.heap.size+1) (w.alloc (.cells headsA 9)) u)=>(hu.cell (p:=⟨w.heap.size,(k % 99).toNat,none⟩) (Nat.lt_succ_self _)).trans ((World.cell?_alloc_new _ _ _ _).trans hh))
  by_cases h4:d % 4=0
  · have hd:decide (0 < d % 4)=false:=by simp;omega
    have HF:=Lib.hid (show bytesF k rm d=headF k ++ [rm,d % 256,d / 256 % 256,d / 65536 % 256,d / 16777216] ++ [d / 8 % 64,0,0,0,0,0,0] by unfold bytesF;rw [if_pos h4])
    clear h4
    go_wp2_with (first
      | (refine convert_ownB rfl (.tmp 17) rfl (w.heap.size+1) (headF k) rfl HO.out.2.2 (by have:=HO.out.2.1;omega) (by simp) ?_;intro v1 w1 ho hb hs;have HO1:=Lib.hid ho;have HB1:=Lib.hid (hb _ HB0.out);clear ho hb hs)
      | (at_builtin;refine append_ownB rfl (.tmp 18) (.tmp 31) rfl (w.heap.size+1) v1 (.slice (some ⟨w1.heap.size,0,none⟩) 5 5) (headF k) [rm,d % 256,d / 256 % 256,d / 65536 % 256,d / 16777216] rfl rfl (HO1.out.below (below_last (Below.refl _ _) _)) (slc_new w1 _ _ 5 5 _ (Nat.le_refl _) (by intro i hi;match i,hi with | 0,_=>rfl | 1,_=>rfl | 2,_=>rfl | 3,_=>rfl | 4,_=>rfl)) (by simp) (by have:=HO.out.2.1;simp;omega) (by have:=HB1.out.size;simp at this ⊢;omega) ?_;intro v2 w2 ho _ hb hs;have HO2:=Lib.hid ho;have HB2:=Lib.hid (hb _ (HB1.out.alloc (by have:=HB1.out.size;simp at this ⊢;omega) _));clear ho hb hs)
      | (at_builtin;refine append_ownB rfl (.tmp 51) (.tmp 56) rfl (w.heap.size+1) v2 (.slice (some ⟨w2.heap.size,0,none⟩) 7 7) (headF k ++ [rm,d % 256,d / 256 % 256,d / 65536 % 256,d / 16777216]) [d / 8 % 64,0,0,0,0,0,0] rfl rfl (HO2.out.below (below_last (Below.refl _ _) _)) (slc_new w2 _ _ 7 7 _ (Nat.le_refl _) (by intro i hi;match i,hi with | 0,_=>rfl | 1,_=>rfl | 2,_=>rfl | 3,_=>rfl | 4,_=>rfl | 5,_=>rfl | 6,_=>rfl)) (by simp) (by have:=HO.out.2.1;simp;omega) (by have:=HB2.out.size;simp at this ⊢;omega) ?_;intro v3 w3 ho _ hb hs;have HO3:=Lib.hid ho;have HB3:=Lib.hid (hb _ (HB2.out.alloc (by have:=HB2.out.size;simp at this ⊢;omega) _));clear ho hb hs))
    go_ret
    exact ⟨_,rfl,by rw [HF.out];exact HO3.out.mono (Nat.le_succ _),(below_last (Below.refl _ _) _).trans (HB3.out.mono (Nat.le_succ _))⟩
  · have hd:decide (0 < d % 4)=true:=by simp;omega
    have HF:=Lib.hid (show bytesF k rm d=headF k ++ [rm,d % 128,0,0,0] ++ [d / 8 % 64,0,0,0,0,0,0] by unfold bytesF;rw [if_neg h4])
    clear h4
    go_wp2_with (first
      | (refine convert_ownB rfl (.tmp 17) rfl (w.heap.size+1) (headF k) rfl HO.out.2.2 (by have:=HO.out.2.1;omega) (by simp) ?_;intro v1 w1 ho hb hs;have HO1:=Lib.hid ho;have HB1:=Lib.hid (hb _ HB0.out);clear ho hb hs)
      | (at_builtin;refine append_ownB rfl (.tmp 18) (.tmp 31) rfl (w.heap.size+1) v1 (.slice (some ⟨w1.heap.size,0,none⟩) 5 5) (headF k) [rm,d % 256,d / 256 % 256,d / 65536 % 256,d / 16777216] rfl rfl (HO1.out.below (below_last (Below.refl _ _) _)) (slc_new w1 _ _ 5 5 _ (Nat.le_refl _) (by intro i hi;match i,hi with | 0,_=>rfl | 1,_=>rfl | 2,_=>rfl | 3,_=>rfl | 4,_=>rfl)) (by simp) (by have:=HO.out.2.1;simp;omega) (by have:=HB1.out.size;simp at this ⊢;omega) ?_;intro v2 w2 ho _ hb hs;have HO2:=Lib.hid ho;have HB2:=Lib.hid (hb _ (HB1.out.alloc (by have:=HB1.out.size;simp at this ⊢;omega) _));have hc2:=HC.out _ HB2.out;clear ho hb hs)
      | (refine convert_ownB rfl (.tmp 43) rfl (w.heap.size+1) (headF k) rfl HO.out.2.2 (by have:=HO.out.2.1;omega) (by have:=HB2.out.size;simpa using this) ?_;intro v3 w3 ho hb hs;have HO3:=Lib.hid ho;have HB3:=Lib.hid (hb _ HB2.out);clear ho hb hs)
      | (at_builtin;refine append_ownB rfl (.tmp 44) (.tmp 49) rfl (w.heap.size+1) v3 (.slice (some ⟨w3.heap.size,0,none⟩) 5 5) (headF k) [rm,d % 128,0,0,0] rfl rfl (HO3.out.below (below_last (Below.refl _ _) _)) (slc_new w3 _ _ 5 5 _ (Nat.le_refl _) (by intro i hi;match i,hi with | 0,_=>rfl | 1,_=>rfl | 2,_=>rfl | 3,_=>rfl | 4,_=>rfl)) (by simp) (by have:=HO.out.2.1;simp;omega) (by have:=HB3.out.size;simp at this ⊢;omega) ?_;intro v4 w4 ho _ hb hs;have HO4:=Lib.hid ho;have HB4:=Lib.hid (hb _ (HB3.out.alloc (by have:=HB3.out.size;simp at this ⊢;omega) _));clear ho hb hs)
      | (at_builtin;refine append_ownB rfl (.tmp 51) (.tmp 56) rfl (w.heap.size+1) v4 (.slice (some ⟨w4.heap.size,0,none⟩) 7 7) (headF k ++ [rm,d % 128,0,0,0]) [d / 8 % 64,0,0,0,0,0,0] rfl rfl (HO4.out.below (below_last (Below.refl _ _) _)) (slc_new w4 _ _ 7 7 _ (Nat.le_refl _) (by intro i hi;match i,hi with | 0,_=>rfl | 1,_=>rfl | 2,_=>rfl | 3,_=>rfl | 4,_=>rfl | 5,_=>rfl | 6,_=>rfl)) (by simp) (by have:=HO.out.2.1;simp;omega) (by have:=HB4.out.size;simp at this ⊢;omega) ?_;intro v5 w5 ho _ hb hs;have HO5:=Lib.hid ho;have HB5:=Lib.hid (hb _ (HB4.out.alloc (by have:=HB4.out.size;simp at this ⊢;omega) _));clear ho hb hs))
    go_ret
    exact ⟨_,rfl,by rw [HF.out];exact HO5.out.mono (Nat.le_succ _),(below_last (Below.refl _ _) _).trans (HB5.out.mono (Nat.le_succ _))⟩
end Go.Proofs.YtlnahkkemjgjbaaGreat
