import Derived.BigQuiet
import Derived.Deep.QuietTactic
import Derived.Deep.MidRow
import Derived.Tactics
import Derived.Test.YtlnahkkemjgjbaaGreatRows
import Derived.ProofKit
import Derived.OpenShut
import Derived.ChangeSame
import Derived.ChangeArms
import Derived.Test.YtlnahkkemjgjbaaGreatKNO
import Derived.Test.YtlnahkkemjgjbaaGreatKNP
namespace Go.Proofs.YtlnahkkemjgjbaaGreat
section
open Go.ChangeShapes Go.WideShapes Go.ChangeAt Go.RowKit
theorem range_below {w w':World} (hb:Below w.heap.size w w') {B o:Nat} {cs:List Value} (h:w.rangeAt B o cs):w'.rangeAt B o cs:=range_but (F:=fun _=>False) (But.of_below hb) (fun h=>h) h
end
section
open Go.ChangeShapes Go.WideShapes Go.ChangeAt Go.RowKit
theorem insL_a {w:World} {A:Nat} {i:Ins} (h:w.rangeAt A 0 (insL i)):w.rangeAt A 3 (opL' i.a):=fun j v hj=>by
  have hj6:j < 6:=(List.getElem?_eq_some_iff.1 hj).1
  have hc:j=0 ∨ j=1 ∨ j=2 ∨ j=3 ∨ j=4 ∨ j=5:=by omega
  rcases hc with rfl | rfl | rfl | rfl | rfl | rfl
  · cases hj;exact h 3 _ rfl
  · cases hj;exact h 4 _ rfl
  · cases hj;exact h 5 _ rfl
  · cases hj;exact h 6 _ rfl
  · cases hj;exact h 7 _ rfl
  · cases hj;exact h 8 _ rfl
theorem insL_b {w:World} {A:Nat} {i:Ins} (h:w.rangeAt A 0 (insL i)):w.rangeAt A 9 (opL' i.b):=fun j v hj=>by
  have hj6:j < 6:=(List.getElem?_eq_some_iff.1 hj).1
  have hc:j=0 ∨ j=1 ∨ j=2 ∨ j=3 ∨ j=4 ∨ j=5:=by omega
  rcases hc with rfl | rfl | rfl | rfl | rfl | rfl
  · cases hj;exact h 9 _ rfl
  · cases hj;exact h 10 _ rfl
  · cases hj;exact h 11 _ rfl
  · cases hj;exact h 12 _ rfl
  · cases hj;exact h 13 _ rfl
  · cases hj;exact h 14 _ rfl
structure Lies (w:World) (l:List (Nat × List Value)) (u:World):Prop where
  below:Below w.heap.size w u
  all:∀ p ∈ l,p.1 < u.heap.size∧u.rangeAt p.1 0 p.2
theorem Lies.none {w u:World} (h:Below w.heap.size w u):Lies w [] u:=⟨h,fun p hp=>by cases hp⟩
theorem Lies.on {w u u':World} {l:List (Nat × List Value)} (h:Lies w l u) (hb:Below u.heap.size u u'):Lies w l u' :=
  ⟨below_step h.below hb,fun p hp=>⟨Nat.lt_of_lt_of_le (h.all p hp).1 hb.size,range_below hb (h.all p hp).2⟩⟩
theorem Lies.drew {w u:World} {l:List (Nat × List Value)} (h:Lies w l u):Lies w l { u with drawn:=u.drawn+1 }:=⟨h.below.drew,fun p hp=>⟨(h.all p hp).1,(h.all p hp).2⟩⟩
theorem Lies.alloc {w u:World} {l:List (Nat × List Value)} (h:Lies w l u) (o:Obj):Lies w l (u.alloc o):=h.on (below_last (Below.refl _ _) _)
theorem Lies.put {w u:World} {l:List (Nat × List Value)} (h:Lies w l u) (C:Array Value) (T:TypeId) (cs:List Value) (hC:cs.length ≤ C.size) (B:Nat) (hB:B=u.heap.size) (Y:World) (hY:Y=(u.alloc (.cells C T)).setCells B 0 cs):Lies w ((B,cs) :: l) Y:=by
  subst hB hY
  refine ⟨below_setCells h.below.size _ _ _ (below_last h.below _),fun p hp=>?_⟩
  rcases List.mem_cons.1 hp with rfl | hp
  · exact ⟨by rw [setCells_size];simp,World.rangeAt_setCells_same _ _ _ _ (there_alloc_new u C T _ hC)⟩
  · obtain ⟨h1,h2⟩:=h.all p hp
    exact ⟨by rw [setCells_size];simp;omega,World.rangeAt_setCells_apart (World.rangeAt_alloc h2 _) _ _ _ (.inl (by omega))⟩
theorem Lies.lit {w u:World} {l:List (Nat × List Value)} (h:Lies w l u) (C:Array Value) (T:TypeId) (B:Nat) (hB:B=u.heap.size):Lies w ((B,C.toList) :: l) (u.alloc (.cells C T)):=by
  subst hB
  refine ⟨below_last h.below _,fun p hp=>?_⟩
  rcases List.mem_cons.1 hp with rfl | hp
  · refine ⟨by simp,fun j v hj=>?_⟩
    rw [Nat.zero_add,World.cell?_alloc_new]
    simpa using hj
  · obtain ⟨h1,h2⟩:=h.all p hp
    exact ⟨by simp;omega,World.rangeAt_alloc h2 _⟩
theorem Lies.at_ {w u:World} {l:List (Nat × List Value)} (h:Lies w l u) (B:Nat) (cs:List Value) (hm:(B,cs) ∈ l):u.rangeAt B 0 cs:=(h.all _ hm).2
end
section
open Go
theorem wpList_met {P:Program} {ops:Array Oper} {Q:Exit→Act→World→Prop} {a:Act} {w:World} {rest:List Oper} {d:Option Tmp} {op:Op} {ty:TypeId} {pos:String} {af:Array Edge} {g:Option (Nat × Bool)} (hw:Region.wanted (Oper.mk d op ty pos af g) (yielded ops a.tmps)=true)
    (h:wpList P ops Q (Oper.mk d op ty pos af none :: rest) a w):wpList P ops Q (Oper.mk d op ty pos af g :: rest) a w:=by
  unfold wpList at h ⊢
  rw [if_pos hw]
  rw [if_pos (by simp [Region.wanted])] at h
  exact h
end
section
open Go.ChangeShapes Go.WideShapes Go.ChangeAt Go.RowKit
section
variable {H:Type} {enc:TypeId × Value→H} {P:Program}
theorem post_plain {f:Func} {s:ChangeSpec} {apart fresh handsOn again:Bool} {W W':World} {args:Array Value} {v:Value} {ds gs:List (DataW H)}
    (hW:DataW.Whole enc P f.params.toList s.vars apart W args.toList ds gs []) (hb:Below W.heap.size W W')
    (hargs:∀ sp:Nat→Bool,DataW.TrodAll enc P W' 0 sp true f.params.toList args.toList (s.fn H (ds ++ gs)).args [])
    (hvars:∀ sp:Nat→Bool,DataW.TrodVars enc P W' sp s.vars (s.fn H (ds ++ gs)).vars [])
    (hres:∀ (b:Nat) (sp:Nat→Bool) (hd:Bool),DataW.TrodAll enc P W' b sp hd f.resultTypes.toList (v.resultList f.resultTypes.size) (s.fn H (ds ++ gs)).results [])
    (hok:∀ (j:Nat) (t:TypeId) (r:Value),f.resultTypes[j]?=some t→(v.resultList f.resultTypes.size)[j]?=some r→Value.okWide P W' .any 0 t r) :
    s.post enc P f apart fresh handsOn again W args v W':=by
  refine ⟨ds,gs,[],[],[],[],hW,hres _ _ _,hargs _,hvars _,hb.frame _,fun _=>?_⟩
  have hA:=trodAll_append (hargs fun _=>true) (hres 0 (fun _=>true) true)
  refine ⟨hok,_,_,[] ++ [],⟨[] ++ [],[],hA,hvars fun _=>true,rfl,?_,?_⟩,?_⟩
  · intro b off hp;cases hp
  · intro _;exact List.nodup_nil
  · intro p hp;cases hp
end
section
variable {H:Type} {enc:TypeId × Value→H} {w:World} {base:Nat} {spare:Nat→Bool} {held:Bool}
end
end
end Go.Proofs.YtlnahkkemjgjbaaGreat
