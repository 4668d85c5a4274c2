import Derived.Deep.DeepCutAuto
import Derived.KernelRfl
import Derived.Test.YtlnahkkemjgjbaaGreatKNA11
import Derived.Test.YtlnahkkemjgjbaaGreatKNI
import Derived.Test.YtlnahkkemjgjbaaGreatKNY
namespace Go.Proofs.YtlnahkkemjgjbaaGreat
open Go.ChangeShapes Go.WideShapes Go.ChangeAt Go.RowKit
def OwnZ (w:World) (base:Nat) (v:Value) (l:List Int):Prop:=(v=.slice none 0 0∧l=[]) ∨ OwnB w base v l
theorem OwnZ.nil (w:World) (base:Nat):OwnZ w base (.slice none 0 0) []:=.inl ⟨rfl,rfl⟩
theorem OwnZ.slc {w:World} {base:Nat} {v:Value} {l:List Int} (h:OwnZ w base v l):Slc .u8 w v l.length (lst l):=by
  rcases h with ⟨rfl,rfl⟩ | h
  · exact .inl ⟨rfl,rfl⟩
  · exact h.slc
theorem OwnZ.below {w w':World} {base:Nat} {v:Value} {l:List Int} (h:OwnZ w base v l) (hb:Below w.heap.size w w'):OwnZ w' base v l:=by
  rcases h with h | h
  · exact .inl h
  · exact .inr (h.below hb)
theorem append_ownZ {w:World} {ops:Array Oper} {rest:List Oper} {o:Oper} {a:Act} {Q:Exit→Act→World→Prop}
    (hg:o.guard=none) (s x:Operand) (hop:o.op=Op.call { callee:=Callee.builtin Builtin.append,args:=#[s,x],argTypes:=#[30,30] })
    (base:Nat) (v1 v2:Value) (l1 l2:List Int) (hs:a.eval s=v1) (hx:a.eval x=v2) (h1:OwnZ w base v1 l1) (h2:Slc .u8 w v2 l2.length (lst l2)) (h0:0 < l2.length) (hb:l1.length+l2.length ≤ 1000000) (hbase:base ≤ w.heap.size)
    (hK:∀ v' w',OwnB w' base v' (l1 ++ l2)→(∀ W,Below base W w→Below base W w')→w.heap.size ≤ w'.heap.size→wpList Tryz.prog ops Q rest (a.put o.dst v') w') :
    wpList Tryz.prog ops Q (o :: rest) a w:=by
  rcases h1 with ⟨rfl,rfl⟩ | h1
  · exact append_ownN hg s x hop base v2 l2 hs hx h2 h0 (by simpa using hb) hbase hK
  · exact append_ownB hg s x hop base v1 v2 l1 l2 hs hx h1 h2 h0 hb hbase (fun v' w' a _ b c=>hK v' w' a b c)
theorem slc_1 (w:World) (T:TypeId) (x y:Int) (h:x=y):Slc .u8 (w.alloc (.cells #[.int .u8 x] T)) (.slice (some ⟨w.heap.size,0,none⟩) 1 1) 1 (lst [y]):=by
  subst h
  exact slc_new w _ _ 1 1 _ (Nat.le_refl _) (fun i hi=>by
    obtain rfl:i=0:=by omega
    rfl)
def BytesR (w:World) (P:List Int) (e:Ending) (w':World):Prop:=∃ v,e=.returned v∧Slc .u8 w' v P.length (lst P)∧Below w.heap.size w w'
set_option maxRecDepth 100000
set_option maxHeartbeats 4000000
theorem spelled_any (o:Int) (w:World):Calls Tryz.prog 59 #[.int .i64 o] w (BytesR w (spelledF o)):=by
  go_enter Tryz.func59,Tryz.ntmps59
  go_wp2_with fail
  go_loopw [3,4] (fun v3 v4 wr=>((v4=.int .i64 16∧OwnZ wr w.heap.size v3 []) ∨ (v4=.int .i64 8∧OwnZ wr w.heap.size v3 (if o / 65536=0 then [] else [o / 65536 % 256])) ∨ (v4=.int .i64 0∧OwnZ wr w.heap.size v3 ((if o / 65536=0 then [] else [o / 65536 % 256]) ++ (if o / 256=0 then [] else [o / 256 % 256]))))∧Below w.heap.size w wr) (fun _ v4 _=>(intOf v4).toNat)
  case atStart=>exact ⟨.inl ⟨rfl,OwnZ.nil _ _⟩,Below.refl _ _⟩
  case round =>
    obtain ⟨hown,hb⟩:=hrel
    have HB:=Lib.hid hb
    clear hb
    rcases hown with ⟨rfl,ho⟩ | ⟨rfl,ho⟩ | ⟨rfl,ho⟩
    · have HO:=Lib.hid ho
      clear ho
      by_cases hz:o / 65536=0
      · have hz1:(o / 65536 != 0)=false:=by rw [hz];rfl
        go_wp2_with fail
        go_roundw
        case rel=>exact ⟨.inr (.inl ⟨rfl,by rw [if_pos hz];exact HO.out⟩),HB.out⟩
        case measure=>decide
      · have hz1:(o / 65536 != 0)=true:=by simpa using hz
        go_wp2_with (at_builtin;refine append_ownZ rfl (.tmp 13) (.tmp 18) rfl w.heap.size u3 _ [] [o / 65536 % 256] rfl rfl (HO.out.below (below_last (Below.refl _ _) _)) (slc_1 _ _ _ _ (by first | rfl | simp [go_sem])) (by simp) (by simp) (by have:=HB.out.size;simp;omega) ?_;intro v' w' hv hw hs;have HV:=Lib.hid hv;have HW:=Lib.hid (hw w (below_last HB.out _));clear hv hw hs)
        go_roundw
        case rel=>exact ⟨.inr (.inl ⟨rfl,by rw [if_neg hz];exact .inr HV.out⟩),HW.out⟩
        case measure=>decide
    · have HO:=Lib.hid ho
      clear ho
      by_cases hz:o / 256=0
      · have hz1:(o / 256 != 0)=false:=by rw [hz];rfl
        go_wp2_with fail
        go_roundw
        case rel=>exact ⟨.inr (.inr ⟨rfl,by rw [if_pos hz,List.append_nil];exact HO.out⟩),HB.out⟩
        case measure=>decide
      · have hz1:(o / 256 != 0)=true:=by simpa using hz
        go_wp2_with (at_builtin;refine append_ownZ rfl (.tmp 13) (.tmp 18) rfl w.heap.size u3 _ (if o / 65536=0 then [] else [o / 65536 % 256]) [o / 256 % 256] rfl rfl (HO.out.below (below_last (Below.refl _ _) _)) (slc_1 _ _ _ _ (by first | rfl | simp [go_sem])) (by simp) (by split <;> simp) (by have:=HB.out.size;simp;omega) ?_;intro v' w' hv hw hs;have HV:=Lib.hid hv;have HW:=Lib.hid (hw w (below_last HB.out _));clear hv hw hs)
        go_roundw
        case rel=>exact ⟨.inr (.inr ⟨rfl,by rw [if_neg hz];exact .inr HV.out⟩),HW.out⟩
        case measure=>decide
    · have HO:=Lib.hid ho
      clear ho
      have hs:spelledF o=((if o / 65536=0 then [] else [o / 65536 % 256]) ++ (if o / 256=0 then [] else [o / 256 % 256])) ++ [o % 256]:=by
        unfold spelledF
        rw [List.append_assoc]
      have hP:((if o / 65536=0 then [] else [o / 65536 % 256]) ++ (if o / 256=0 then [] else [o / 256 % 256])).length ≤ 2:=by
        rw [List.length_append]
        split <;> split <;> simp
      generalize (if o / 65536=0 then [] else [o / 65536 % 256]) ++ (if o / 256=0 then [] else [o / 256 % 256])=P at *
      have HS:=Lib.hid hs
      clear hs
      go_wp2_with (at_builtin;refine append_ownZ rfl (.tmp 20) (.tmp 23) rfl w.heap.size u3 _ P [o % 256] rfl rfl (HO.out.below (below_last (Below.refl _ _) _)) (slc_1 _ _ _ _ (by first | rfl | simp [go_sem])) (by simp) (by simp;omega) (by have:=HB.out.size;simp;omega) ?_;intro v' w' hv hw hs;have HV:=Lib.hid hv;have HW:=Lib.hid (hw w (below_last HB.out _));clear hv hw hs)
      go_returns
      exact ⟨_,rfl,by rw [HS.out];exact HV.out.slc,HW.out⟩
section
attribute [local go_sem] isSome_setCell
set_option maxRecDepth 512
theorem made_at (w:World) (C:Array Value) (T:TypeId):(w.alloc (.cells C T)).heap[w.heap.size]?=some (.cells C T (0,0)):=by
  show (w.heap.push _)[w.heap.size]?=_
  simp
def lowA (v:Int):Nat→Nat→Array Value
  | 1,0=>#[.int .u8 0]
  | 1,_=>#[.int .u8 (v % 256)]
  | 2,0=>#[.int .u8 0,.int .u8 0]
  | 2,1=>#[.int .u8 (v % 256),.int .u8 0]
  | 2,_=>#[.int .u8 (v % 256),.int .u8 (v / 256 % 256)]
  | _,0=>#[.int .u8 0,.int .u8 0,.int .u8 0,.int .u8 0]
  | _,1=>#[.int .u8 (v % 256),.int .u8 0,.int .u8 0,.int .u8 0]
  | _,2=>#[.int .u8 (v % 256),.int .u8 (v / 256 % 256),.int .u8 0,.int .u8 0]
  | _,3=>#[.int .u8 (v % 256),.int .u8 (v / 256 % 256),.int .u8 (v / 65536 % 256),.int .u8 0]
  | _,_=>#[.int .u8 (v % 256),.int .u8 (v / 256 % 256),.int .u8 (v / 65536 % 256),.int .u8 (v / 16777216 % 256)]
set_option maxRecDepth 100000
theorem low_one (v:Int) (w:World):Calls Tryz.prog 56 #[.int .u32 v,.int .i64 1] w (BytesR w (lowF v 1)):=by
  have hmk:∀ w,(Instr.makeSlice 30 (.int .i64 1) (.int .i64 1)).run Tryz.prog w=.ok (.slice (some ⟨w.heap.size,0,none⟩) 1 1) (w.alloc (.cells #[.int .u8 0] 5)):=fun _=>by kernel_rfl
  go_enter Tryz.func56,Tryz.ntmps56
  go_wp2_with fail
  go_loopw [11] (fun v11 wr=>∃ k:Nat,k ≤ 1∧v11=.int .i64 k∧wr.heap[w.heap.size]?=some (.cells (lowA v 1 k) 5 (0,0))∧Below w.heap.size w wr) (fun v11 _=>1 - (intOf v11).toNat)
  case atStart=>exact ⟨0,by decide,rfl,made_at _ _ _,below_last (Below.refl _ _) _⟩
  case round =>
    obtain ⟨k,hk,rfl,hh,hb⟩:=hrel
    have HB:=Lib.hid hb
    have HH:=Lib.hid hh
    clear hb hh
    rcases (show k=0 ∨ k=1 by omega) with rfl | rfl
    · obtain ⟨c0,f0⟩:=cell_block HH.out 0
      have c0:wr.cell? ⟨w.heap.size,0,none⟩=some (.int .u8 0):=c0
      go_wp2_with fail
      go_roundw
      case rel=>exact ⟨1,by decide,by go_num,block_setCell HH.out 0 _,HB.out.setCell (Nat.le_refl _) _⟩
      case measure=>decide
    · go_wp2_with fail
      go_returns
      refine ⟨_,rfl,?_,HB.out⟩
      rw [low_len,low_1]
      exact .inr ⟨_,_,rfl,Nat.le_refl _,fun i hi=>by
        rw [addr_add,Nat.zero_add,(cell_block HH.out i).1]
        rcases (show i=0 by omega) with rfl <;> rfl⟩
theorem low_two (v:Int) (w:World):Calls Tryz.prog 56 #[.int .u32 v,.int .i64 2] w (BytesR w (lowF v 2)):=by
  have hmk:∀ w,(Instr.makeSlice 30 (.int .i64 2) (.int .i64 2)).run Tryz.prog w=.ok (.slice (some ⟨w.heap.size,0,none⟩) 2 2) (w.alloc (.cells #[.int .u8 0,.int .u8 0] 5)):=fun _=>by kernel_rfl
  go_enter Tryz.func56,Tryz.ntmps56
  go_wp2_with fail
  go_loopw [11] (fun v11 wr=>∃ k:Nat,k ≤ 2∧v11=.int .i64 k∧wr.heap[w.heap.size]?=some (.cells (lowA v 2 k) 5 (0,0))∧Below w.heap.size w wr) (fun v11 _=>2 - (intOf v11).toNat)
  case atStart=>exact ⟨0,by decide,rfl,made_at _ _ _,below_last (Below.refl _ _) _⟩
  case round =>
    obtain ⟨k,hk,rfl,hh,hb⟩:=hrel
    have HB:=Lib.hid hb
    have HH:=Lib.hid hh
    clear hb hh
    rcases (show k=0 ∨ k=1 ∨ k=2 by omega) with rfl | rfl | rfl
    · obtain ⟨c0,f0⟩:=cell_block HH.out 0
      have c0:wr.cell? ⟨w.heap.size,0,none⟩=some (.int .u8 0):=c0
      go_wp2_with fail
      go_roundw
      case rel=>exact ⟨1,by decide,by go_num,block_setCell HH.out 0 _,HB.out.setCell (Nat.le_refl _) _⟩
      case measure=>decide
    · obtain ⟨c0,f0⟩:=cell_block HH.out 1
      have c0:wr.cell? ⟨w.heap.size,1,none⟩=some (.int .u8 0):=c0
      go_wp2_with fail
      go_roundw
      case rel=>exact ⟨2,by decide,by go_num,block_setCell HH.out 1 _,HB.out.setCell (Nat.le_refl _) _⟩
      case measure=>decide
    · go_wp2_with fail
      go_returns
      refine ⟨_,rfl,?_,HB.out⟩
      rw [low_len,low_2]
      exact .inr ⟨_,_,rfl,Nat.le_refl _,fun i hi=>by
        rw [addr_add,Nat.zero_add,(cell_block HH.out i).1]
        rcases (show i=0 ∨ i=1 by omega) with rfl | rfl <;> rfl⟩
theorem low_four (v:Int) (w:World):Calls Tryz.prog 56 #[.int .u32 v,.int .i64 4] w (BytesR w (lowF v 4)):=by
  have hmk:∀ w,(Instr.makeSlice 30 (.int .i64 4) (.int .i64 4)).run Tryz.prog w=.ok (.slice (some ⟨w.heap.size,0,none⟩) 4 4) (w.alloc (.cells #[.int .u8 0,.int .u8 0,.int .u8 0,.int .u8 0] 5)):=fun _=>by kernel_rfl
  go_enter Tryz.func56,Tryz.ntmps56
  go_wp2_with fail
  go_loopw [11] (fun v11 wr=>∃ k:Nat,k ≤ 4∧v11=.int .i64 k∧wr.heap[w.heap.size]?=some (.cells (lowA v 4 k) 5 (0,0))∧Below w.heap.size w wr) (fun v11 _=>4 - (intOf v11).toNat)
  case atStart=>exact ⟨0,by decide,rfl,made_at _ _ _,below_last (Below.refl _ _) _⟩
  case round =>
    obtain ⟨k,hk,rfl,hh,hb⟩:=hrel
    have HB:=Lib.hid hb
    have HH:=Lib.hid hh
    clear hb hh
    rcases (show k=0 ∨ k=1 ∨ k=2 ∨ k=3 ∨ k=4 by omega) with rfl | rfl | rfl | rfl | rfl
    · obtain ⟨c0,f0⟩:=cell_block HH.out 0
      have c0:wr.cell? ⟨w.heap.size,0,none⟩=some (.int .u8 0):=c0
      go_wp2_with fail
      go_roundw
      case rel=>exact ⟨1,by decide,by go_num,block_setCell HH.out 0 _,HB.out.setCell (Nat.le_refl _) _⟩
      case measure=>decide
    · obtain ⟨c0,f0⟩:=cell_block HH.out 1
      have c0:wr.cell? ⟨w.heap.size,1,none⟩=some (.int .u8 0):=c0
      go_wp2_with fail
      go_roundw
      case rel=>exact ⟨2,by decide,by go_num,block_setCell HH.out 1 _,HB.out.setCell (Nat.le_refl _) _⟩
      case measure=>decide
    · obtain ⟨c0,f0⟩:=cell_block HH.out 2
      have c0:wr.cell? ⟨w.heap.size,2,none⟩=some (.int .u8 0):=c0
      go_wp2_with fail
      go_roundw
      case rel=>exact ⟨3,by decide,by go_num,block_setCell HH.out 2 _,HB.out.setCell (Nat.le_refl _) _⟩
      case measure=>decide
    · obtain ⟨c0,f0⟩:=cell_block HH.out 3
      have c0:wr.cell? ⟨w.heap.size,3,none⟩=some (.int .u8 0):=c0
      go_wp2_with fail
      go_roundw
      case rel=>exact ⟨4,by decide,by go_num,block_setCell HH.out 3 _,HB.out.setCell (Nat.le_refl _) _⟩
      case measure=>decide
    · go_wp2_with fail
      go_returns
      refine ⟨_,rfl,?_,HB.out⟩
      rw [low_len,low_4]
      exact .inr ⟨_,_,rfl,Nat.le_refl _,fun i hi=>by
        rw [addr_add,Nat.zero_add,(cell_block HH.out i).1]
        rcases (show i=0 ∨ i=1 ∨ i=2 ∨ i=3 by omega) with rfl | rfl | rfl | rfl <;> rfl⟩
set_option maxRecDepth 512
theorem low_any (v:Int) (n:Nat) (hn:n=1 ∨ n=2 ∨ n=4) (w:World):Calls Tryz.prog 56 #[.int .u32 v,.int .i64 n] w (BytesR w (lowF v n)):=by
  rcases hn with rfl | rfl | rfl
  · exact low_one v w
  · exact low_two v w
  · exact low_four v w
end
set_option maxRecDepth 512
theorem zeros_size (n:Nat):(Builtin.zeroCells (Value.int .u8 0).cells n).size=n:=by simp [Builtin.zeroCells,Value.cells]
theorem run_append_zeros (w:World) (ty:TypeId) (n:Nat) (h0:0 < n) (hn:n ≤ 1000000) :
    (Builtin.append_ #[30,3] ty #[.slice none 0 0,.int .i64 n]).run Tryz.prog w =
      .ok (.slice (some ⟨w.heap.size,0,none⟩) n (grownCap w n 0 5)) (w.drew.alloc (.cells (Builtin.zeroCells (Value.int .u8 0).cells n ++ Builtin.zeroCells (Value.int .u8 0).cells (grownCap w n 0 5 - n)) 5)):=by
  obtain ⟨i0,hi,hz0,hz1,hz2⟩:=info_parts info_u8'
  have hn0:n ≠ 0:=by omega
  have hw:IntKind.i64.wrap (n:Int)=(n:Int):=by rw [IntKind.wrap_i64];omega
  have h63':¬ (9223372036854775807 < (n:Int)):=by omega
  have h48':¬ (281474976710656 < Builtin.nextslicecap n 0 * i0.bytes):=by rw [nextslicecap_zero h0,hz2];omega
  have hneg:¬ ((n:Int) < 0):=by omega
  have hbig:¬ (281474976710656 < (n:Int) * (i0.bytes:Int)):=by rw [hz2];omega
  have hs1:i0.size=1:=hz1
  have hai:∀ u,(asInt (.int .i64 (n:Int))).run Tryz.prog u=.ok (n:Int) u:=fun _=>rfl
  simp [Builtin.append_,run_underlying Tryz.underlying30,run_underlying Tryz.underlying3,sizeOf,typeInfo,zeroValue,hi,hz0,hn0,hw,h63',h48',hneg,hbig,hs1,hai,Question.forced,newRow,grownCap,Builtin.firstCells]
theorem append_room {w:World} {ops:Array Oper} {rest:List Oper} {o:Oper} {a:Act} {Q:Exit→Act→World→Prop}
    (hg:o.guard=none) (s x:Operand) (hop:o.op=Op.call { callee:=Callee.builtin Builtin.append,args:=#[s,x],argTypes:=#[30,3] })
    (base n:Nat) (hs:a.eval s=.slice none 0 0) (hx:a.eval x=.int .i64 (n:Int)) (h0:0 < n) (hn:n ≤ 1000000) (hbase:base ≤ w.heap.size)
    (hK:∀ g cap w',OwnB w' base (.slice (some ⟨g,0,none⟩) 0 cap) []→(∀ W,Below base W w→Below base W w')→w.heap.size ≤ w'.heap.size→wpList Tryz.prog ops Q rest (a.put o.dst (.slice (some ⟨g,0,none⟩) n cap)) w') :
    wpList Tryz.prog ops Q (o :: rest) a w :=
  wpList_plain hg fun _ hh=>by
    have hr:=run_append_zeros w o.type n h0 hn
    have hge:=grownCap_ge w n 0 5
    have hle:=grownCap_le_maxLen w n 0 5 (by unfold maxLen;omega)
    unfold Oper.wp execOp
    simp only [hop,resolve,invoke,builtin,Sem.run_bind,Sem.run_pure,Result.andThen_ok,List.map_toArray,List.map_cons,List.map_nil,hs,hx,hr]
    have hsz:(Builtin.zeroCells (Value.int .u8 0).cells n ++ Builtin.zeroCells (Value.int .u8 0).cells (grownCap w n 0 5 - n)).size=grownCap w n 0 5:=by
      rw [Array.size_append,zeros_size,zeros_size]
      omega
    refine hh _ _ (hK _ _ _ ?_ (fun W hW=>(hW.drew).alloc (by exact hbase) _) (by simp))
    exact OwnB.made w.drew base hbase _ 5 (0,0) [] (by rw [hsz];exact hle) (Nat.zero_le _) (fun i hi=>absurd hi (Nat.not_lt_zero _)) (.inl rfl) _ hsz.symm
set_option maxRecDepth 100000
theorem grow_nil (n:Nat) (hn:n ≤ 1000000) (w:World):Calls Tryz.prog 85 #[.slice none 0 0,.int .i64 n] w fun e w'=>∃ v,e=.returned v∧OwnZ w' w.heap.size v []∧Below w.heap.size w w':=by
  have hw:IntKind.i64.wrap ((n:Int) - 0)=(n:Int):=by rw [IntKind.wrap_i64];omega
  by_cases h0:n=0
  · subst h0
    go_enter Tryz.func85,Tryz.ntmps85
    go_wp2_with fail
    go_returns
    exact ⟨_,rfl,OwnZ.nil _ _,Below.refl _ _⟩
  · have d0:decide ((n:Int) > 0)=true:=decide_eq_true (by omega)
    have d1:decide ((n:Int) < 0)=false:=decide_eq_false (by omega)
    go_enter Tryz.func85,Tryz.ntmps85
    go_wp2_with (at_builtin;refine append_room rfl (.tmp 20) (.tmp 21) rfl w.heap.size n rfl rfl (by omega) hn (Nat.le_refl _) ?_;intro g cap w' hv hw' hs;have HV:=Lib.hid hv;have HW:=Lib.hid (hw' w (Below.refl _ _));clear hv hw' hs)
    go_returns
    exact ⟨_,rfl,.inr HV.out,HW.out⟩
set_option maxRecDepth 512
theorem append_nil0 {w:World} {ops:Array Oper} {rest:List Oper} {o:Oper} {a:Act} {Q:Exit→Act→World→Prop}
    (hg:o.guard=none) (s x:Operand) (hop:o.op=Op.call { callee:=Callee.builtin Builtin.append,args:=#[s,x],argTypes:=#[30,30] })
    (hs:a.eval s=.slice none 0 0) (b:Option Addr) (c:Nat) (hx:a.eval x=.slice b 0 c)
    (hK:wpList Tryz.prog ops Q rest (a.put o.dst (.slice none 0 0)) w) :
    wpList Tryz.prog ops Q (o :: rest) a w:=by
  obtain ⟨i0,hi,hz0,hz1,hz2⟩:=info_parts info_u8'
  refine wpList_plain hg fun _ hh=>?_
  have hr:(Builtin.append_ #[30,30] o.type #[.slice none 0 0,.slice b 0 c]).run Tryz.prog w=.ok (.slice none 0 0) w:=by
    cases b with
    | none=>simp [Builtin.append_,run_underlying (Tryz.underlying30),sizeOf,typeInfo,hi,Builtin.lenOf,Builtin.firstCells]
    | some b=>simp [Builtin.append_,run_underlying (Tryz.underlying30),sizeOf,typeInfo,hi,Builtin.lenOf,Builtin.firstCells,loadCells,loadCellsFrom]
  unfold Oper.wp execOp
  simp only [hop,resolve,invoke,builtin,Sem.run_bind,Sem.run_pure,Result.andThen_ok,List.map_toArray,List.map_cons,List.map_nil,hs,hx,hr]
  exact hh _ _ hK
theorem append_ownY {w:World} {ops:Array Oper} {rest:List Oper} {o:Oper} {a:Act} {Q:Exit→Act→World→Prop}
    (hg:o.guard=none) (s x:Operand) (hop:o.op=Op.call { callee:=Callee.builtin Builtin.append,args:=#[s,x],argTypes:=#[30,30] })
    (base:Nat) (v1 v2:Value) (l1 l2:List Int) (hs:a.eval s=v1) (hx:a.eval x=v2) (h1:OwnZ w base v1 l1) (h2:Slc .u8 w v2 l2.length (lst l2)) (hb:l1.length+l2.length ≤ 1000000) (hbase:base ≤ w.heap.size)
    (hK:∀ v' w',OwnZ w' base v' (l1 ++ l2)→(∀ W,Below base W w→Below base W w')→w.heap.size ≤ w'.heap.size→wpList Tryz.prog ops Q rest (a.put o.dst v') w') :
    wpList Tryz.prog ops Q (o :: rest) a w:=by
  by_cases h0:0 < l2.length
  · exact append_ownZ hg s x hop base v1 v2 l1 l2 hs hx h1 h2 h0 hb hbase (fun v' w' a b c=>hK v' w' (.inr a) b c)
  · obtain rfl:l2=[]:=List.eq_nil_of_length_eq_zero (by omega)
    rcases h1 with ⟨rfl,rfl⟩ | h1
    · have hk:=hK (.slice none 0 0) w (OwnZ.nil _ _) (fun W h=>h) (Nat.le_refl _)
      rcases h2 with ⟨rfl,_⟩ | ⟨b,c,rfl,_,_⟩
      · exact append_nil0 hg s x hop hs none 0 hx hk
      · exact append_nil0 hg s x hop hs (some b) c hx hk
    · exact append_ownA hg s x hop base v1 v2 l1 [] hs hx h1 h2 hb hbase (fun v' w' a _ b c=>hK v' w' (.inr a) b c)
def BRows (w:World) (v:Value) (LL:List (List Int)):Prop :=
  (v=.slice none 0 0∧LL=[]) ∨ ∃ R cap,v=.slice (some ⟨R,0,none⟩) LL.length cap∧LL.length ≤ cap∧∀ j,j < LL.length→∃ x,w.cell? ⟨R,j,none⟩=some x∧Slc .u8 w x (LL.getD j []).length (lst (LL.getD j []))
theorem BRows.below {w w':World} {v:Value} {LL:List (List Int)} (h:BRows w v LL) (hb:Below w.heap.size w w'):BRows w' v LL:=by
  rcases h with h | ⟨R,cap,h0,h1,h2⟩
  · exact .inl h
  · refine .inr ⟨R,cap,h0,h1,fun j hj=>?_⟩
    obtain ⟨x,hx,hs⟩:=h2 j hj
    exact ⟨x,by rw [hb.cell (p:=⟨R,j,none⟩) (cell_lt hx)];exact hx,hs.below hb⟩
theorem BRows.at_ {w:World} {v:Value} {LL:List (List Int)} (h:BRows w v LL) (hl:0 < LL.length):∃ R cap,v=.slice (some ⟨R,0,none⟩) LL.length cap∧LL.length ≤ cap∧∀ j,j < LL.length→∃ x a c,x=.slice a (LL.getD j []).length c∧w.cell? ⟨R,j,none⟩=some x∧Slc .u8 w x (LL.getD j []).length (lst (LL.getD j [])):=by
  rcases h with ⟨_,rfl⟩ | ⟨R,cap,h0,h1,h2⟩
  · exact absurd hl (by decide)
  · refine ⟨R,cap,h0,h1,fun j hj=>?_⟩
    obtain ⟨x,hx,hs⟩:=h2 j hj
    obtain ⟨a,c,e⟩:=hs.len
    exact ⟨x,a,c,e,hx,hs⟩
theorem flat_next (LL:List (List Int)) (k:Nat) (h:k < LL.length):(LL.take (k+1)).flatten=(LL.take k).flatten ++ LL.getD k []:=by
  rw [List.take_succ_eq_append_getElem h,List.flatten_append]
  simp [List.getD_eq_getElem?_getD,List.getElem?_eq_getElem h]
theorem flat_le (LL:List (List Int)) (k:Nat):(LL.take k).flatten.length ≤ LL.flatten.length:=by
  have:LL.flatten=(LL.take k).flatten ++ (LL.drop k).flatten:=by rw [← List.flatten_append,List.take_append_drop]
  rw [this,List.length_append]
  omega
set_option maxRecDepth 100000
theorem concat_gen (S E:Nat→List Int) (n:Nat) (hS0:S 0=[]) (hS:∀ k,k < n→S (k+1)=S k ++ E k) (hb:∀ k,k ≤ n→(S k).length ≤ 1000000) (hm:n ≤ 100) (R cap:Nat) (hcap:n ≤ cap) (w:World)
    (hx:∀ j,j < n→∃ x a c,x=.slice a (E j).length c∧w.cell? ⟨R,j,none⟩=some x∧Slc .u8 w x (E j).length (lst (E j))):Calls Tryz.prog 58 #[.slice (some ⟨R,0,none⟩) n cap] w (BytesR w (S n)):=by
  have HX:=Lib.hid hx
  have HG:=Lib.hid (grow_nil (S n).length (hb n (Nat.le_refl _)))
  have HS:=Lib.hid hS
  have HB:=Lib.hid hb
  clear hx hb hS
  go_enter Tryz.func58,Tryz.ntmps58
  go_wp2_with fail
  go_loopw [3,11] (fun v3 v11 wr=>w=wr∧∃ k:Nat,k ≤ n∧v11=.int .i64 k∧v3=.int .i64 ((S k).length:Nat)) (fun _ v11 _=>n - (intOf v11).toNat)
  case atStart=>exact ⟨rfl,0,by omega,rfl,by rw [hS0];rfl⟩
  case round =>
    obtain ⟨rfl,k,hk,rfl,rfl⟩:=hrel
    by_cases hlt:k < n
    · obtain ⟨x,a,c,rfl,hcell,_⟩:=HX.out k hlt
      have d1:decide ((k:Int) < (n:Int))=true:=decide_eq_true (by omega)
      have hle:=HB.out (k+1) (by omega)
      rw [HS.out k hlt,List.length_append] at hle
      have hw1:IntKind.i64.wrap (((S k).length:Int)+((E k).length:Int))=((S k).length:Int)+((E k).length:Int):=by rw [IntKind.wrap_i64];omega
      have d2:decide (((S k).length:Int)+((E k).length:Int) < 0)=false:=decide_eq_false (by omega)
      go_wp2_with fail
      go_roundw
      case rel=>exact ⟨trivial,k+1,by omega,by go_num,by rw [HS.out k hlt,List.length_append];go_num⟩
      case measure=>simp [intOf];omega
    · obtain rfl:k=n:=by omega
      have d1:decide ((k:Int) < (k:Int))=false:=decide_eq_false (by omega)
      go_wp2_with fail
      refine (HG.out w).mono ?_
      rintro e w1 ⟨v,rfl,hv,hb1⟩
      have HV:=Lib.hid hv
      have HB1:=Lib.hid hb1
      clear hv hb1
      go_wp2_with fail
      go_loopw [6,27] (fun v6 v27 wr=>∃ j:Nat,j ≤ k∧v27=.int .i64 j∧OwnZ wr w.heap.size v6 (S j)∧Below w.heap.size w wr) (fun _ v27 _=>k - (intOf v27).toNat)
      case atStart=>exact ⟨0,by omega,rfl,by rw [hS0];exact HV.out,HB1.out⟩
      case round =>
        obtain ⟨j,hj,rfl,ho,hbq⟩:=hrel
        have HO:=Lib.hid ho
        have HQ:=Lib.hid hbq
        clear ho hbq
        by_cases hjt:j < k
        · obtain ⟨x,a,c,rfl,hcell,hslc⟩:=HX.out j hjt
          have d1:decide ((j:Int) < (k:Int))=true:=decide_eq_true (by omega)
          have hle:=HB.out (j+1) (by omega)
          rw [HS.out j hjt,List.length_append] at hle
          have hcell2:=(HQ.out.cell (p:=⟨R,j,none⟩) (cell_lt hcell)).trans hcell
          have HL:=Lib.hid (hslc.below HQ.out)
          clear hcell hslc
          go_wp2_with (at_builtin;refine append_ownY rfl (.tmp 31) (.tmp 32) rfl w.heap.size u6 _ (S j) (E j) rfl rfl HO.out HL.out hle HQ.out.size ?_;intro v' w' hv hw hs;have HV2:=Lib.hid hv;have HW2:=Lib.hid (hw w HQ.out);clear hv hw hs)
          go_roundw
          case rel=>exact ⟨j+1,by omega,by go_num,by rw [HS.out j hjt];exact HV2.out,HW2.out⟩
          case measure=>simp [intOf];omega
        · obtain rfl:j=k:=by omega
          have d1:decide ((j:Int) < (j:Int))=false:=decide_eq_false (by omega)
          go_wp2_with fail
          go_returns
          exact ⟨_,rfl,HO.out.slc,HQ.out⟩
set_option maxRecDepth 512
theorem concat_any (LL:List (List Int)) (hn:LL.flatten.length ≤ 1000000) (hl:0 < LL.length) (hm:LL.length ≤ 100) (v:Value) (w:World) (hs:BRows w v LL):Calls Tryz.prog 58 #[v] w (BytesR w LL.flatten):=by
  obtain ⟨R,cap,rfl,hcap,hx⟩:=hs.at_ hl
  have:=concat_gen (fun k=>(LL.take k).flatten) (fun k=>LL.getD k []) LL.length rfl (fun k hk=>flat_next LL k hk) (fun k _=>Nat.le_trans (flat_le LL k) hn) hm R cap hcap w hx
  simpa only [List.take_length] using this
theorem i64_mask (n:Int) (m:Nat) (c:Int) (hm:m ≤ 8) (hc:c=((2 ^ m - 1:Nat):Int)):bits .and .i64 n c=n % ((2 ^ m:Nat):Int):=by
  have h1:(BitVec.ofInt 64 c).toNat=2 ^ m - 1:=by
    rcases (show m=0 ∨ m=1 ∨ m=2 ∨ m=3 ∨ m=4 ∨ m=5 ∨ m=6 ∨ m=7 ∨ m=8 by omega) with rfl | rfl | rfl | rfl | rfl | rfl | rfl | rfl | rfl <;> (subst hc;decide)
  have key:(BitVec.ofInt 64 n &&& BitVec.ofInt 64 c).toNat=(n % ((2 ^ 64:Nat):Int)).toNat % 2 ^ m:=by
    rw [BitVec.toNat_and,BitVec.toNat_ofInt,h1,Nat.and_two_pow_sub_one_eq_mod]
  show IntKind.i64.wrap ((BitVec.ofInt 64 n &&& BitVec.ofInt 64 c).toNat:Nat)=_
  rw [key,IntKind.wrap_i64]
  rcases (show m=0 ∨ m=1 ∨ m=2 ∨ m=3 ∨ m=4 ∨ m=5 ∨ m=6 ∨ m=7 ∨ m=8 by omega) with rfl | rfl | rfl | rfl | rfl | rfl | rfl | rfl | rfl <;> omega
theorem i64_join (k:Nat) (a b:Int) (a0:0 ≤ a) (ha:a % ((2 ^ k:Nat):Int)=0) (b0:0 ≤ b) (b1:b < ((2 ^ k:Nat):Int)) (h:a+b < 16777216):bits .or .i64 a b=a+b:=by
  obtain ⟨x,rfl⟩:∃ x:Nat,a=(x:Int):=⟨a.toNat,by omega⟩
  obtain ⟨y,rfl⟩:∃ y:Nat,b=(y:Int):=⟨b.toNat,by omega⟩
  have hx:x % 2 ^ k=0:=by
    have:((x % 2 ^ k:Nat):Int)=0:=by rw [Int.natCast_emod];exact ha
    omega
  have hy:y < 2 ^ k:=by omega
  obtain ⟨z,hz⟩:∃ z,x=z * 2 ^ k:=⟨x / 2 ^ k,by rw [Nat.div_mul_cancel (Nat.dvd_of_mod_eq_zero hx)]⟩
  have e1:(BitVec.ofInt 64 (x:Int)).toNat=x:=by rw [BitVec.toNat_ofInt];omega
  have e2:(BitVec.ofInt 64 (y:Int)).toNat=y:=by rw [BitVec.toNat_ofInt];omega
  have e3:x ||| y=x+y:=by
    have:=Nat.shiftLeft_add_eq_or_of_lt hy z
    rw [Nat.shiftLeft_eq,← hz] at this
    exact this.symm
  show IntKind.i64.wrap ((BitVec.ofInt 64 (x:Int) ||| BitVec.ofInt 64 (y:Int)).toNat:Nat)=_
  rw [BitVec.toNat_or,e1,e2,e3,IntKind.wrap_i64]
  omega
theorem wF_in (s:Int):wF s=0 ∨ wF s=1:=by unfold wF;split <;> simp
theorem wide_any (s:Int) (w:World):Calls Tryz.prog 35 #[.int .i64 s] w fun e w'=>e=.returned (.int .i64 (wF s))∧w'=w:=by
  by_cases h:s=1
  · subst h
    go_enter Tryz.func35,Tryz.ntmps35
    go_wp2_with fail
    go_returns
    exact ⟨rfl,rfl⟩
  · have hd:(s == 1)=false:=by simpa using h
    have e:wF s=0+1:=by unfold wF;rw [if_neg h];rfl
    rw [e]
    clear h e
    go_enter Tryz.func35,Tryz.ntmps35
    go_wp2_with fail
    go_returns
    exact ⟨rfl,rfl⟩
theorem condition_any (x:Ins) (w:World):Calls Tryz.prog 86 #[insV x] w fun e w'=>e=.returned (.int .i64 (x.cond % 16))∧Below w.heap.size w w':=by
  have hm:bits .and .i64 x.cond 15=x.cond % 16:=i64_mask x.cond 4 15 (by decide) rfl
  unfold insV insC
  go_enter Tryz.func86,Tryz.ntmps86
  go_wp2_with fail
  go_returns
  exact ⟨rfl,below_last (Below.refl _ _) _⟩
theorem repeated_any (x:Ins) (w:World):Calls Tryz.prog 102 #[insV x] w fun e w'=>e=.returned (.int .i64 (if x.rep then 62208 else 0))∧Below w.heap.size w w':=by
  obtain ⟨op,cd,sz,oa,ob,oc,rp,ln⟩:=x
  unfold insV insC
  cases rp <;>
  · go_enter Tryz.func102,Tryz.ntmps102
    go_wp2_with fail
    go_returns
    exact ⟨rfl,below_last (Below.refl _ _) _⟩
theorem immediate_any (x:Ins) (w:World):Calls Tryz.prog 39 #[insV x] w (BytesR w (lowF x.b.disp (nF x.size))):=by
  obtain ⟨op,cd,sz,oa,ob,oc,rp,ln⟩:=x
  obtain ⟨k,r,ba,ix,sc,di⟩:=ob
  unfold insV insC
  have H1:=Lib.hid (low_any di 1 (.inl rfl))
  have H4:=Lib.hid (low_any di 4 (.inr (.inr rfl)))
  by_cases h:sz=1
  · subst h
    go_enter Tryz.func39,Tryz.ntmps39
    go_wp2_with fail
    refine (H1.out _).mono ?_
    rintro e w' ⟨v,rfl,hs,hb⟩
    have HS:=Lib.hid hs
    have HB:=Lib.hid (below_first hb)
    clear hs hb
    go_wp2_with fail
    go_returns
    exact ⟨_,rfl,HS.out,HB.out⟩
  · have hd:(sz == 1)=false:=by simpa using h
    have e:nF sz=4:=by unfold nF;rw [if_neg h]
    show Calls _ _ _ w (BytesR w (lowF di (nF sz)))
    rw [e]
    clear h e
    go_enter Tryz.func39,Tryz.ntmps39
    go_wp2_with fail
    refine (H4.out _).mono ?_
    rintro e w' ⟨v,rfl,hs,hb⟩
    have HS:=Lib.hid hs
    have HB:=Lib.hid (below_first hb)
    clear hs hb
    go_wp2_with fail
    go_returns
    exact ⟨_,rfl,HS.out,HB.out⟩
section
attribute [local go_sem] isSome_setCell
theorem brows_made (w:World) (C:Array Value) (T:TypeId) (LL:List (List Int)) (n:Nat) (hn:n=LL.length) (h:∀ j,j < LL.length→∃ x,C[j]?=some x∧Slc .u8 w x (LL.getD j []).length (lst (LL.getD j []))):BRows (w.alloc (.cells C T)) (.slice (some ⟨w.heap.size,0,none⟩) n n) LL:=by
  subst hn
  refine .inr ⟨_,_,rfl,Nat.le_refl _,fun j hj=>?_⟩
  obtain ⟨x,hx,hs⟩:=h j hj
  exact ⟨x,by rw [World.cell?_alloc_new];exact hx,hs.below (below_last (Below.refl _ _) _)⟩
theorem brows_2 (w:World) (T:TypeId) (v1 v2:Value) (l1 l2:List Int) (h1:Slc .u8 w v1 l1.length (lst l1)) (h2:Slc .u8 w v2 l2.length (lst l2)):BRows (w.alloc (.cells #[v1,v2] T)) (.slice (some ⟨w.heap.size,0,none⟩) 2 2) [l1,l2] :=
  brows_made w _ T [l1,l2] 2 rfl (fun j hj=>by
    rcases (show j=0 ∨ j=1 by simp at hj;omega) with rfl | rfl
    · exact ⟨v1,rfl,h1⟩
    · exact ⟨v2,rfl,h2⟩)
theorem brows_3 (w:World) (T:TypeId) (v1 v2 v3:Value) (l1 l2 l3:List Int) (h1:Slc .u8 w v1 l1.length (lst l1)) (h2:Slc .u8 w v2 l2.length (lst l2)) (h3:Slc .u8 w v3 l3.length (lst l3)):BRows (w.alloc (.cells #[v1,v2,v3] T)) (.slice (some ⟨w.heap.size,0,none⟩) 3 3) [l1,l2,l3] :=
  brows_made w _ T [l1,l2,l3] 3 rfl (fun j hj=>by
    rcases (show j=0 ∨ j=1 ∨ j=2 by simp at hj;omega) with rfl | rfl | rfl
    · exact ⟨v1,rfl,h1⟩
    · exact ⟨v2,rfl,h2⟩
    · exact ⟨v3,rfl,h3⟩)
theorem spelled_len (o:Int):(spelledF o).length ≤ 3:=by
  unfold spelledF
  rw [List.length_append,List.length_append]
  split <;> split <;> simp
theorem plain_any (o:Int) (T:List Int) (hT:T.length ≤ 100) (v:Value) (w:World) (hs:Slc .u8 w v T.length (lst T)):Calls Tryz.prog 38 #[.int .i64 o,v] w (BytesR w (spelledF o ++ T)):=by
  obtain ⟨a0,c0,rfl⟩:=hs.len
  have HSl:=Lib.hid hs
  have HSp:=Lib.hid (spelled_any o)
  have hC:=fun v w h=>concat_any [spelledF o,T] (by have:=spelled_len o;simp;omega) (by simp) (by simp) v w h
  have e:[spelledF o,T].flatten=spelledF o ++ T:=by simp
  rw [e] at hC
  have HC:=Lib.hid hC
  clear hC e hs hT
  go_enter Tryz.func38,Tryz.ntmps38
  go_wp2_with fail
  refine (HSp.out _).mono ?_
  rintro e w1 ⟨v1,rfl,h1,b1⟩
  obtain ⟨a1,c1,rfl⟩:=h1.len
  have HR:=Lib.hid (brows_2 w1 30 _ _ _ _ h1 (HSl.out.below b1))
  have HB1:=Lib.hid b1
  clear h1 b1
  go_wp2_with fail
  refine (HC.out _ _ HR.out).mono ?_
  rintro e w2 ⟨v2,rfl,h2,b2⟩
  have H2:=Lib.hid h2
  have HB2:=Lib.hid (below_step HB1.out (below_first b2))
  clear h2 b2
  go_wp2_with fail
  go_returns
  exact ⟨_,rfl,H2.out,HB2.out⟩
theorem named_any (o:Int) (r:Opd) (T:List Int) (hT:T.length ≤ 100) (h0:0 ≤ o) (h8:o % 8=0) (h1:o < 65536) (v:Value) (w:World) (hs:Slc .u8 w v T.length (lst T)):Calls Tryz.prog 40 #[.int .i64 o,opV r,v] w (BytesR w (namedF o r T)):=by
  have HSl:=Lib.hid hs
  have hm:bits .and .i64 r.reg 7=r.reg % 8:=i64_mask r.reg 3 7 (by decide) rfl
  have hj:bits .or .i64 o (r.reg % 8)=o+r.reg % 8:=i64_join 3 o (r.reg % 8) h0 (by simpa using h8) (by omega) (by simp;omega) (by omega)
  have HP:=Lib.hid (plain_any (o+r.reg % 8) T hT v)
  unfold namedF
  clear hs h0 h8 h1 hT
  obtain ⟨k,r,ba,ix,sc,di⟩:=r
  unfold opV
  go_enter Tryz.func40,Tryz.ntmps40
  go_wp2_with fail
  refine (HP.out _ (HSl.out.below (below_last (Below.refl _ _) _))).mono ?_
  rintro e w2 ⟨v2,rfl,h2,b2⟩
  have H2:=Lib.hid h2
  have HB2:=Lib.hid (below_first b2)
  clear h2 b2
  go_wp2_with fail
  go_returns
  exact ⟨_,rfl,H2.out,HB2.out⟩
end
end Go.Proofs.YtlnahkkemjgjbaaGreat
