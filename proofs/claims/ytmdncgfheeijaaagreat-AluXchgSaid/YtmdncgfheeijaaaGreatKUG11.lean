import Derived.Deep.RegionWith
import Derived.Test.YtmdncgfheeijaaaGreatKUG5
namespace Go.Proofs.YtmdncgfheeijaaaGreat
section
open Go
set_option maxRecDepth 100000
def tabAt:List (Option Value)→Nat→Option Value
 |[],_=>none
 |x :: _,0=>x
 |_ :: l,n+1=>tabAt l n
theorem tab_at{v w:Value}(h:some v=some w):w=v:=(Option.some.inj h).symm
def envV(V:Value):Operand→Value
 | .tmp _=>V
 | .const c=>c
 | .global g=>.pointer (some ⟨g,0,none⟩)
 | .func f=>.func (.func f) #[] #[]
def AutoD(P:Program)(ops:Array Oper)(nod:Nat→Bool)(C:World→Prop)(tab:List (Option Value))(p:Nat×Nat×Nat):Prop:=
 ∃o,ops[p.1]?=some o∧need o p.2.1=true∧(ops[p.2.1]?).bind (·.dst)=some p.2.2∧nod p.2.1=false∧nod p.1=false∧(∀b:Act,execOp b.eval o=execOp (envV (b.tmps.getD p.2.2 undef)) o)∧∀V,tabAt tab p.2.1=some V→∃v,tabAt tab p.1=some v∧∀u,C u→(execOp (envV V) o).run P u=.ok (.value v) u
def AutoB(P:Program)(ops:Array Oper)(nod:Nat→Bool)(C:World→Prop)(tab:List (Option Value))(a:Act)(p:Nat×Nat):Prop:=
 ∃o,ops[p.1]?=some o∧noDst ops p.2=true∧nod p.1=false∧(∀b:Act,execOp b.eval o=execOp (envV (b.tmps.getD p.2 undef)) o)∧∃v,tabAt tab p.1=some v∧∀u,C u→(execOp (envV (a.tmps.getD p.2 undef)) o).run P u=.ok (.value v) u
def AllD(P:Program)(ops:Array Oper)(nod:Nat→Bool)(C:World→Prop)(tab:List (Option Value)):List (Nat×Nat×Nat)→Prop
 |[]=>True
 |p :: l=>AutoD P ops nod C tab p∧AllD P ops nod C tab l
def AllB(P:Program)(ops:Array Oper)(nod:Nat→Bool)(C:World→Prop)(tab:List (Option Value))(a:Act):List (Nat×Nat)→Prop
 |[]=>True
 |p :: l=>AutoB P ops nod C tab a p∧AllB P ops nod C tab a l
section
variable {P:Program} {ops:Array Oper} {nod:Nat→Bool} {C:World→Prop} {tab:List (Option Value)} {Q:Exit→Act→World→Prop} {a b:Act} {u:World} {i:Nat} {o:Oper}
def Leaves1(P:Program)(Q:Exit→Act→World→Prop)(nod:Nat→Bool)(C:World→Prop)(tab:List (Option Value))(i:Nat)(o:Oper)(b:Act)(u:World):Prop:=
 o.wp P b u (fun b' u'=>∃v,b'=b.put o.dst v∧C u'∧tabAt tab i=some (if nod i then undef else v)) Q
theorem all_d:∀{l:List (Nat×Nat×Nat)},AllD P ops nod C tab l→∀p∈l,AutoD P ops nod C tab p
 |[],_,_,h=>by cases h
 |_ :: _,h,p,hp=>(List.mem_cons.1 hp).elim (fun e=>e ▸ h.1) (fun q=>all_d h.2 p q)
theorem all_b:∀{l:List (Nat×Nat)},AllB P ops nod C tab a l→∀p∈l,AutoB P ops nod C tab a p
 |[],_,_,h=>by cases h
 |_ :: _,h,p,hp=>(List.mem_cons.1 hp).elim (fun e=>e ▸ h.1) (fun q=>all_b h.2 p q)
theorem got_at{j t:Nat}(hd:(ops[j]?).bind (·.dst)=some t):got ops b j=b.tmps.getD t undef:=by unfold got;rw[hd]
theorem auto_d{p:Nat×Nat×Nat}(h:AutoD P ops nod C tab p)(ho:ops[p.1]?=some o)(hC:C u)(hdep:need o p.2.1=true→tabAt tab p.2.1=some (left nod (got ops b) p.2.1)):∃v,nod p.1=false∧tabAt tab p.1=some v∧(execOp b.eval o).run P u=.ok (.value v) u:=by
 obtain⟨o',ho',h1,h2,h3,h4,h5,h6⟩:=h
 rw[ho]at ho'
 cases ho'
 obtain⟨v,hv,hr⟩:=h6 _ (hdep h1)
 refine⟨v,h4,hv,?_⟩
 rw[h5]
 have e:left nod (got ops b) p.2.1=b.tmps.getD p.2.2 undef:=by unfold left;rw[h3,if_neg (by decide),got_at h2]
 rw[←e]
 exact hr u hC
theorem auto_b{p:Nat×Nat}(h:AutoB P ops nod C tab a p)(ho:ops[p.1]?=some o)(hC:C u)(hbase:∀t,noDst ops t=true→b.tmps.getD t undef=a.tmps.getD t undef):∃v,nod p.1=false∧tabAt tab p.1=some v∧(execOp b.eval o).run P u=.ok (.value v) u:=by
 obtain⟨o',ho',h1,h4,h5,v,hv,hr⟩:=h
 rw[ho]at ho'
 cases ho'
 refine⟨v,h4,hv,?_⟩
 rw[h5,hbase _ h1]
 exact hr u hC
theorem auto_or{D:List (Nat×Nat×Nat)}{B:List (Nat×Nat)}{R:List Nat}{n:Nat}(hall:(List.range n).all (fun i=>D.any (fun p=>p.1==i) || B.any (fun p=>p.1==i) || R.contains i)=true)(hi:i<n):(∃p∈D,p.1=i)∨(∃p∈B,p.1=i)∨i∈R:=by
 have h:=List.all_eq_true.1 hall i (List.mem_range.2 hi)
 simp only[Bool.or_eq_true,List.any_eq_true,beq_iff_eq,List.contains_iff_mem]at h
 rcases h with(h|h)|h
 ·exact .inl h
 ·exact .inr (.inl h)
 ·exact .inr (.inr h)
theorem wp_region_autoE(hm:P.follows .mixedOrders=true){id:Nat}{w:World}(nod:Nat→Bool)(hfit:fitDraw ops (eyes nod fun i=>i) a.tmps.size=true)
  (C:World→Prop) (E:Nat→World→Prop) (tab:List (Option Value)) (D:List (Nat×Nat×Nat)) (B:List (Nat×Nat)) (R:List Nat) (hall:(List.range ops.size).all (fun i=>D.any (fun p=>p.1==i) || B.any (fun p=>p.1==i) || R.contains i)=true)
  (hE:∀i,i ∉ R→∀u,E i u) (hD:AllD P ops nod C tab D) (hB:AllB P ops nod C tab a B) (h0:C { w with drawn:=w.drawn+1 })
  (step:∀(i:Nat) (o:Oper) (b:Act) (u:World),i∈R→ops[i]?=some o→C u→b.defers=a.defers→(∀t,noDst ops t=true→b.tmps.getD t undef=a.tmps.getD t undef) →
   (∀j,need o j=true→tabAt tab j=some (left nod (got ops b) j)∧E j u) →
   o.wp P b u (fun b' u'=>∃v,b'=b.put o.dst v∧C u'∧tabAt tab i=some (if nod i then undef else v)∧E i u'∧∀j,E j u→E j u') Q)
  (fin:∀(f:Nat→Value) u,C u→(∀i,i<ops.size→tabAt tab i=some (left nod f i)∧E i u)→Q .normal (laid ops f a ops.size) u):
  (Code.region id ops true).wp P Q a w:=by
 have hsz:∀(i:Nat) (o:Oper) (t:Tmp),ops[i]?=some o→o.dst=some t→t<a.tmps.size:=fun _ _ t ho hd=>((fitDraw_at hfit ho).2.1 t hd).1
 refine wp_region_any hm (wpAny_midG (γ:=Unit) (a0:=a) (Inv:=fun u _=>C u) (G:=fun u _ u' _=>∀j,E j u→E j u') (p:=fun i f u _=>tabAt tab i=some (left nod f i)∧E i u) (look:=eyes nod fun i=>i) (fun _ _ _ _ t hi hj hd he=>((fitDraw_at hfit hj).2.1 t he).2 _ _ hi hd) hsz (fun _ _ ho=>(fitDraw_at hfit ho).2.2.1) (fun _ _ k ho hk=>(fitDraw_at hfit ho).2.2.2 k hk) ?_ (fun _ _ _ h=>h) ?_ ?_ ops.size _ a _ () ?_ ⟨by simp,rfl,rfl,fun _ _=>rfl,h0,?_,?_⟩)
 ·intro i f f' _ _ _ _ h hl hg
  have e:left nod f i=left nod f' i:=by
   unfold left
   by_cases hn:nod i=true
   ·rw[if_pos hn,if_pos hn]
   ·rw[if_neg hn,if_neg hn]
    exact hl i (by unfold eyes;rw[if_neg hn];simp)
  rw[←e]
  exact⟨h.1,hg i h.2⟩
 ·intro i o b u _ ho hC _ hdf hb hd
  refine wpOp_free ho (fitDraw_at hfit ho).1 ?_
  have hd':∀j,need o j=true→tabAt tab j=some (left nod (got ops b) j)∧E j u:=fun j hj=>by
   obtain⟨e,he,h4,hon⟩:=need_at hj
   have:=hd e he h4
   rwa[hon]at this
  have ends:∀v,tabAt tab i=some (if nod i then undef else v)→tabAt tab i=some (left nod (fun k=>if k=i then v else got ops b k) i):=fun v hv=>by
   rw[hv]
   unfold left
   simp
  by_cases hR:i∈R
  ·refine Oper.wp_mono ?_ (step i o b u hR ho hC hdf (fun t ht=>hb t (noDst_at ht)) hd')
   rintro b' u' ⟨v,h1,h2,h3,h4,h5⟩
   exact⟨v,(),h1,h2,h5,ends v h3,h4⟩
  ·have same:(∃v,nod i=false∧tabAt tab i=some v∧(execOp b.eval o).run P u=.ok (.value v) u):=by
    rcases auto_or hall (Array.getElem?_eq_some_iff.1 ho).1 with⟨p,hp,rfl⟩|⟨p,hp,rfl⟩|h
    ·exact auto_d (all_d hD p hp) ho hC (fun hj=>(hd' _ hj).1)
    ·exact auto_b (all_b hB p hp) ho hC (fun t ht=>hb t (noDst_at ht))
    ·exact absurd h hR
   obtain⟨v,hn,hv,hr⟩:=same
   exact wp_val hr ⟨v,(),rfl,hC,fun _ h=>h,ends v (by rw[hn];exact hv),hE i hR u⟩
 ·intro b u _ h1 h2 h3 h4 h5
  have:=fin (got ops b) u h4 h5
  rwa[←laid_all hsz h1 h2 h3]at this
 ·exact Nat.le_trans List.countP_le_length (by simp)
 ·intro j o _ hj
  have:(Array.replicate ops.size false).getD j false=false:=by simp[Array.getD_eq_getD_getElem?,Array.getElem?_replicate];split<;>rfl
  rw[this]at hj;cases hj
 ·intro j hj
  have:(Array.replicate ops.size false).getD j false=false:=by simp[Array.getD_eq_getD_getElem?,Array.getElem?_replicate];split<;>rfl
  rw[this]at hj;cases hj
theorem wp_region_auto(hm:P.follows .mixedOrders=true){id:Nat}{w:World}(nod:Nat→Bool)(hfit:fitDraw ops (eyes nod fun i=>i) a.tmps.size=true)
  (C:World→Prop) (tab:List (Option Value)) (D:List (Nat×Nat×Nat)) (B:List (Nat×Nat)) (R:List Nat) (hall:(List.range ops.size).all (fun i=>D.any (fun p=>p.1==i) || B.any (fun p=>p.1==i) || R.contains i)=true)
  (hD:AllD P ops nod C tab D) (hB:AllB P ops nod C tab a B) (h0:C { w with drawn:=w.drawn+1 })
  (step:∀(i:Nat) (o:Oper) (b:Act) (u:World),i∈R→ops[i]?=some o→C u→b.defers=a.defers→(∀t,noDst ops t=true→b.tmps.getD t undef=a.tmps.getD t undef) →
   (∀j,need o j=true→tabAt tab j=some (left nod (got ops b) j))→Leaves1 P Q nod C tab i o b u)
  (fin:∀(f:Nat→Value) u,C u→(∀i,i<ops.size→tabAt tab i=some (left nod f i))→Q .normal (laid ops f a ops.size) u):
  (Code.region id ops true).wp P Q a w:=
 wp_region_autoE hm nod hfit C (fun _ _=>True) tab D B R hall (fun _ _ _=>trivial) hD hB h0
  (fun i o b u hi ho hC hdf hb hd=>Oper.wp_mono (fun _ _ ⟨v,h1,h2,h3⟩=>⟨v,h1,h2,h3,trivial,fun _ h=>h⟩) (step i o b u hi ho hC hdf hb (fun j hj=>(hd j hj).1)))
  (fun f u hC hV=>fin f u hC (fun i hi=>(hV i hi).1))
theorem wp_region_autoT(hm:P.follows .mixedOrders=true){id:Nat}{w:World}(k:Nat)(ok:Oper)(hok:ops[k]?=some ok)(hk1:ops.size=k+1)(hcov:coverB ops k=true)(nod:Nat→Bool)(hfit:fitDraw ops (eyes nod fun i=>i) a.tmps.size=true)
  (C:World→Prop) (tab:List (Option Value)) (D:List (Nat×Nat×Nat)) (B:List (Nat×Nat)) (R:List Nat) (hall:(List.range k).all (fun i=>D.any (fun p=>p.1==i) || B.any (fun p=>p.1==i) || R.contains i)=true)
  (hD:AllD P ops nod C tab D) (hB:AllB P ops nod C tab a B) (h0:C { w with drawn:=w.drawn+1 })
  (step:∀(i:Nat) (o:Oper) (b:Act) (u:World),i∈R→ops[i]?=some o→C u→b.defers=a.defers→(∀t,noDst ops t=true→b.tmps.getD t undef=a.tmps.getD t undef) →
   (∀j,need o j=true→tabAt tab j=some (left nod (got ops b) j))→Leaves1 P Q nod C tab i o b u)
  (last:∀(f:Nat→Value) u,C u→(∀i,i<k→tabAt tab i=some (left nod f i))→ok.wp P (laid ops f a ops.size) u (fun b' u'=>Q .normal b' u') Q):
  (Code.region id ops true).wp P Q a w:=by
 have hsz:∀(i:Nat) (o:Oper) (t:Tmp),ops[i]?=some o→o.dst=some t→t<a.tmps.size:=fun _ _ t ho hd=>((fitDraw_at hfit ho).2.1 t hd).1
 refine wp_region_any hm (wpAny_tail (a0:=a) (Inv:=C) (G:=fun _ _=>True) (p:=fun i f _=>tabAt tab i=some (left nod f i)) (look:=eyes nod fun i=>i) k ok hok hk1 hcov (fun _ _ ho=>(fitDraw_at hfit ho).1) (fun _ _ _ _ t hi hj hd he=>((fitDraw_at hfit hj).2.1 t he).2 _ _ hi hd) hsz (fun _ _ ho=>(fitDraw_at hfit ho).2.2.1) (fun _ _ k ho hk=>(fitDraw_at hfit ho).2.2.2 k hk) ?_ (fun _=>trivial) ?_ ?_ ops.size _ a _ ?_ ?_ ⟨by simp,rfl,rfl,fun _ _=>rfl,h0,?_,?_⟩)
 ·intro i f f' _ _ h hl _
  have e:left nod f i=left nod f' i:=by
   unfold left
   by_cases hn:nod i=true
   ·rw[if_pos hn,if_pos hn]
   ·rw[if_neg hn,if_neg hn]
    exact hl i (by unfold eyes;rw[if_neg hn];simp)
  rw[←e]
  exact h
 ·intro i o b u hik ho hC _ hdf hb hd
  have hd':∀j,need o j=true→tabAt tab j=some (left nod (got ops b) j):=fun j hj=>by
   obtain⟨e,he,h4,hon⟩:=need_at hj
   have:=hd e he h4
   rwa[hon]at this
  have hL:Leaves1 P Q nod C tab i o b u:=by
   rcases auto_or hall hik with⟨p,hp,rfl⟩|⟨p,hp,rfl⟩|hR
   ·obtain⟨v,hn,hv,hr⟩:=auto_d (all_d hD p hp) ho hC (hd' _)
    exact wp_val hr ⟨v,rfl,hC,by rw[hn];exact hv⟩
   ·obtain⟨v,hn,hv,hr⟩:=auto_b (all_b hB p hp) ho hC (fun t ht=>hb t (noDst_at ht))
    exact wp_val hr ⟨v,rfl,hC,by rw[hn];exact hv⟩
   ·exact step i o b u hR ho hC hdf (fun t ht=>hb t (noDst_at ht)) hd'
  refine Oper.wp_mono ?_ hL
  rintro b' u' ⟨v,h1,h2,h3⟩
  refine⟨v,h1,h2,trivial,?_⟩
  have e:left nod (fun k=>if k=i then v else got ops b k) i=if nod i then undef else v:=by
   unfold left
   simp
  rw[e]
  exact h3
 ·intro b u h1 h2 h3 h4 h5
  have:=last (got ops b) u h4 h5
  rwa[←laid_all hsz h1 h2 h3]at this
 ·simp[Array.getD_eq_getD_getElem?,Array.getElem?_replicate];split<;>rfl
 ·exact Nat.le_trans List.countP_le_length (by simp)
 ·intro j o _ hj
  have:(Array.replicate ops.size false).getD j false=false:=by simp[Array.getD_eq_getD_getElem?,Array.getElem?_replicate];split<;>rfl
  rw[this]at hj;cases hj
 ·intro j hj
  have:(Array.replicate ops.size false).getD j false=false:=by simp[Array.getD_eq_getD_getElem?,Array.getElem?_replicate];split<;>rfl
  rw[this]at hj;cases hj
end
end
section
open Go.ChangeShapes Go.WideShapes Go.ChangeAt Go.RowKit
set_option maxRecDepth 100000
theorem pair_0(fc fp fz fs fo fd:Bool)(w:World):Calls Tryz.prog 145 #[.int .i64 0,.agg #[.bool fc,.bool fp,.bool fz,.bool fs,.bool fo,.bool fd]] w fun e w'=>e=.returned (.tuple #[.bool fo,.bool true])∧Below w.heap.size w w':=by
 go_enter Tryz.func145,Tryz.ntmps145
 go_wp2
 go_ret2
 exact⟨rfl,below_last (Below.refl _ _) _⟩
theorem pair_1(fc fp fz fs fo fd:Bool)(w:World):Calls Tryz.prog 145 #[.int .i64 1,.agg #[.bool fc,.bool fp,.bool fz,.bool fs,.bool fo,.bool fd]] w fun e w'=>e=.returned (.tuple #[.bool fc,.bool true])∧Below w.heap.size w w':=by
 go_enter Tryz.func145,Tryz.ntmps145
 go_wp2
 go_ret2
 exact⟨rfl,below_last (Below.refl _ _) _⟩
theorem pair_2(fc fp fz fs fo fd:Bool)(w:World):Calls Tryz.prog 145 #[.int .i64 2,.agg #[.bool fc,.bool fp,.bool fz,.bool fs,.bool fo,.bool fd]] w fun e w'=>e=.returned (.tuple #[.bool fz,.bool true])∧Below w.heap.size w w':=by
 go_enter Tryz.func145,Tryz.ntmps145
 go_wp2
 go_ret2
 exact⟨rfl,below_last (Below.refl _ _) _⟩
theorem pair_3(fc fp fz fs fo fd:Bool)(w:World):Calls Tryz.prog 145 #[.int .i64 3,.agg #[.bool fc,.bool fp,.bool fz,.bool fs,.bool fo,.bool fd]] w fun e w'=>e=.returned (.tuple #[.bool (fc || fz),.bool true])∧Below w.heap.size w w':=by
 cases fc
 all_goals
  go_enter Tryz.func145,Tryz.ntmps145
  go_wp2
  go_ret2
  exact⟨rfl,below_last (Below.refl _ _) _⟩
theorem pair_4(fc fp fz fs fo fd:Bool)(w:World):Calls Tryz.prog 145 #[.int .i64 4,.agg #[.bool fc,.bool fp,.bool fz,.bool fs,.bool fo,.bool fd]] w fun e w'=>e=.returned (.tuple #[.bool fs,.bool true])∧Below w.heap.size w w':=by
 go_enter Tryz.func145,Tryz.ntmps145
 go_wp2
 go_ret2
 exact⟨rfl,below_last (Below.refl _ _) _⟩
theorem pair_5(fc fp fz fs fo fd:Bool)(w:World):Calls Tryz.prog 145 #[.int .i64 5,.agg #[.bool fc,.bool fp,.bool fz,.bool fs,.bool fo,.bool fd]] w fun e w'=>e=.returned (.tuple #[.bool fp,.bool true])∧Below w.heap.size w w':=by
 go_enter Tryz.func145,Tryz.ntmps145
 go_wp2
 go_ret2
 exact⟨rfl,below_last (Below.refl _ _) _⟩
theorem pair_6(fc fp fz fs fo fd:Bool)(w:World):Calls Tryz.prog 145 #[.int .i64 6,.agg #[.bool fc,.bool fp,.bool fz,.bool fs,.bool fo,.bool fd]] w fun e w'=>e=.returned (.tuple #[.bool (!(fs==fo)),.bool true])∧Below w.heap.size w w':=by
 go_enter Tryz.func145,Tryz.ntmps145
 go_wp2
 go_ret2
 exact⟨rfl,below_last (Below.refl _ _) _⟩
theorem pair_7(fc fp fz fs fo fd:Bool)(w:World):Calls Tryz.prog 145 #[.int .i64 7,.agg #[.bool fc,.bool fp,.bool fz,.bool fs,.bool fo,.bool fd]] w fun e w'=>e=.returned (.tuple #[.bool (fz || !(fs==fo)),.bool true])∧Below w.heap.size w w':=by
 cases fz
 all_goals
  go_enter Tryz.func145,Tryz.ntmps145
  go_wp2
  go_ret2
  exact⟨rfl,below_last (Below.refl _ _) _⟩
theorem pair_out(p:Int)(fc fp fz fs fo fd:Bool)(w:World)(h0:(p==0)=false)(h1:(p==1)=false)(h2:(p==2)=false)(h3:(p==3)=false)(h4:(p==4)=false)(h5:(p==5)=false)(h6:(p==6)=false)(h7:(p==7)=false):Calls Tryz.prog 145 #[.int .i64 p,.agg #[.bool fc,.bool fp,.bool fz,.bool fs,.bool fo,.bool fd]] w fun e w'=>e=.returned (.tuple #[.bool false,.bool false])∧Below w.heap.size w w':=by
 go_enter Tryz.func145,Tryz.ntmps145
 go_wp2
 go_ret2
 exact⟨rfl,below_last (Below.refl _ _) _⟩
theorem pair_any(p:Int)(h0:0≤p)(h1:p≤7)(fc fp fz fs fo fd:Bool)(w:World):Calls Tryz.prog 145 #[.int .i64 p,.agg #[.bool fc,.bool fp,.bool fz,.bool fs,.bool fo,.bool fd]] w fun e w'=>e=.returned (.tuple #[.bool (condP p.toNat fc fp fz fs fo),.bool true])∧Below w.heap.size w w':=by
 obtain rfl|rfl|rfl|rfl|rfl|rfl|rfl|rfl:p=0∨p=1∨p=2∨p=3∨p=4∨p=5∨p=6∨p=7:=by omega
 all_goals first|exact pair_0 fc fp fz fs fo fd w|exact pair_1 fc fp fz fs fo fd w|exact pair_2 fc fp fz fs fo fd w|exact pair_3 fc fp fz fs fo fd w|exact pair_4 fc fp fz fs fo fd w|exact pair_5 fc fp fz fs fo fd w|exact pair_6 fc fp fz fs fo fd w|exact pair_7 fc fp fz fs fo fd w
theorem cholds_in(c:Int)(fc fp fz fs fo fd:Bool)(w:World)(c0:0≤c)(c1:c≤15):Calls Tryz.prog 129 #[.int .i64 c,.agg #[.bool fc,.bool fp,.bool fz,.bool fs,.bool fo,.bool fd]] w fun e w'=>e=.returned (.bool (condP (c/2).toNat fc fp fz fs fo != (c%2==1)))∧Below w.heap.size w w':=by
 have p0:0≤c/2:=by omega
 have p1:c/2≤7:=by omega
 have hP:=pair_any (c/2) p0 p1 fc fp fz fs fo fd
 generalize condP (c/2).toNat fc fp fz fs fo=B at *
 go_enter Tryz.func129,Tryz.ntmps129
 go_wp2_with fail
 refine(hP _).mono ?_
 rintro e w1 ⟨rfl,hb1⟩
 go_wp2_with fail
 go_ret
 have hB:(bits .and .i64 c 1 != 0)=(c%2==1):=by
  rcases sixteen c with h|h|rfl|rfl|rfl|rfl|rfl|rfl|rfl|rfl|rfl|rfl|rfl|rfl|rfl|rfl|rfl|rfl
  ·omega
  ·omega
  all_goals rfl
 refine⟨?_,((Below.refl _ _).alloc (Nat.le_refl _) _).trans (hb1.mono (by simp))⟩
 show Ending.returned (Value.bool (!(B==(bits .and .i64 c 1 != 0))))=_
 rw[hB];rfl
theorem pairs_out(p:Int)(h:p<0∨7<p)(fc fp fz fs fo fd:Bool)(w:World):Calls Tryz.prog 145 #[.int .i64 p,.agg #[.bool fc,.bool fp,.bool fz,.bool fs,.bool fo,.bool fd]] w fun e w'=>e=.returned (.tuple #[.bool false,.bool false])∧Below w.heap.size w w':=
 pair_out p fc fp fz fs fo fd w (by simp;omega) (by simp;omega) (by simp;omega) (by simp;omega) (by simp;omega) (by simp;omega) (by simp;omega) (by simp;omega)
theorem cholds_out(c:Int)(fc fp fz fs fo fd:Bool)(w:World)(h:c<0∨15<c)(c0:-9223372036854775808≤c)(c1:c≤9223372036854775807):Calls Tryz.prog 129 #[.int .i64 c,.agg #[.bool fc,.bool fp,.bool fz,.bool fs,.bool fo,.bool fd]] w fun e w'=>e=.returned (.bool false)∧Below w.heap.size w w':=by
 have hP:=pairs_out (c/2) (by omega) fc fp fz fs fo fd
 clear h
 go_enter Tryz.func129,Tryz.ntmps129
 go_wp2_with fail
 refine(hP _).mono ?_
 rintro e w1 ⟨rfl,hb1⟩
 go_wp2_with fail
 go_ret
 exact⟨rfl,((Below.refl _ _).alloc (Nat.le_refl _) _).trans (hb1.mono (by simp))⟩
theorem cholds_any(c:Int)(fc fp fz fs fo fd:Bool)(c0:-9223372036854775808≤c)(c1:c≤9223372036854775807)(w:World):Calls Tryz.prog 129 #[.int .i64 c,.agg #[.bool fc,.bool fp,.bool fz,.bool fs,.bool fo,.bool fd]] w fun e w'=>e=.returned (.bool (condH c fc fp fz fs fo))∧Below w.heap.size w w':=by
 by_cases h:0≤c∧c≤15
 ·rw[condH_in c fc fp fz fs fo h.1 h.2];exact cholds_in c fc fp fz fs fo fd w h.1 h.2
 ·rw[condH_out c fc fp fz fs fo (by omega)];exact cholds_out c fc fp fz fs fo fd w (by omega) c0 c1
end
section
open Go.ChangeShapes Go.WideShapes Go.ChangeAt Go.RowKit
attribute [local go_sem] isSome_setCell
set_option maxRecDepth 100000
set_option maxHeartbeats 1000000
theorem step_pos(fc fp fz fs fo fd:Bool)(v n i:Int)(hi0:0<i)(w:World):Calls Tryz.prog 68 #[.agg #[.bool fc,.bool fp,.bool fz,.bool fs,.bool fo,.bool fd],.int .u32 v,.int .i64 n,.int .i64 i] w fun e w'=>
  e=.returned (.tuple #[.int .u32 (addV v 1 n false),.agg #[.bool fc,.bool (par (addV v 1 n false)),.bool (zer (addV v 1 n false)),.bool (hi (addV v 1 n false) n),.bool (addO v 1 n false),.bool fd]])∧Below w.heap.size w w':=by
 go_enter Tryz.func68,Tryz.ntmps68
 go_wp2_with (first|(go_at_call 67;refine(sub_any _ _ _ _ _).mono ?_;rintro e w1 ⟨rfl,hb⟩;obtain⟨hc,hf⟩:=bcell hb;have hz:w.heap.size+1<w1.heap.size:=(by have:=hb.size;simp at this;omega);have hy:w.heap.size<w1.heap.size:=(by omega);have hy1:w.heap.size<w1.heap.size+1:=(by omega);have hy2:w.heap.size+1<w1.heap.size+1:=(by omega)) |
  (go_at_call 85;refine(add_any _ _ _ _ _).mono ?_;rintro e w2 ⟨rfl,hb2⟩;obtain⟨hc2,hf2⟩:=bcell hb2;have hz2:w1.heap.size<w2.heap.size:=(by have:=hb2.size;simp at this;omega);have q0:(w2.cell? ⟨w1.heap.size,0,none⟩).isSome=true:=(by rw[hc2 _ _ (by simp)];simp[go_sem]);have q1:(w2.cell? ⟨w1.heap.size,1,none⟩).isSome=true:=(by rw[hc2 _ _ (by simp)];simp[go_sem]);have q2:(w2.cell? ⟨w1.heap.size,2,none⟩).isSome=true:=(by rw[hc2 _ _ (by simp)];simp[go_sem]);have q3:(w2.cell? ⟨w1.heap.size,3,none⟩).isSome=true:=(by rw[hc2 _ _ (by simp)];simp[go_sem]);have q4:(w2.cell? ⟨w1.heap.size,4,none⟩).isSome=true:=(by rw[hc2 _ _ (by simp)];simp[go_sem]);have q5:(w2.cell? ⟨w1.heap.size,5,none⟩).isSome=true:=(by rw[hc2 _ _ (by simp)];simp[go_sem]);have hz3:w.heap.size<w2.heap.size:=(by omega);have hz4:w.heap.size+1<w2.heap.size:=(by omega)))
 go_region
 all_goals go_wp2
 go_region
 all_goals go_wp2
 all_goals
  have hB:Below w.heap.size w w1:=(((Below.refl _ _).alloc (Nat.le_refl _) _).alloc (by simp) _).trans (hb.mono (by simp;omega))
  have hB2:Below w.heap.size w w2:=(hB.alloc (by omega) _).trans (hb2.mono (by simp;omega))
  refine bodyPost_ret (v:=.tuple #[.int .u32 (addV v 1 n false),.agg #[.bool fc,.bool (par (addV v 1 n false)),.bool (zer (addV v 1 n false)),.bool (hi (addV v 1 n false) n),.bool (addO v 1 n false),.bool fd]]) (by simp[results,Tryz.results68,go_sem,hc,hz,hy2,hc2]) rfl ⟨rfl,?_⟩
  repeat' (first|(with_reducible exact hB2)|(with_reducible refine Below.drew ?_)|(with_reducible refine Below.setCell ?_ ?_ _)|(simp<;>omega))
theorem step_neg(fc fp fz fs fo fd:Bool)(v n i:Int)(hi0:i≤0)(w:World):Calls Tryz.prog 68 #[.agg #[.bool fc,.bool fp,.bool fz,.bool fs,.bool fo,.bool fd],.int .u32 v,.int .i64 n,.int .i64 i] w fun e w'=>
  e=.returned (.tuple #[.int .u32 (subV v 1 n false),.agg #[.bool fc,.bool (par (subV v 1 n false)),.bool (zer (subV v 1 n false)),.bool (hi (subV v 1 n false) n),.bool (subO v 1 n false),.bool fd]])∧Below w.heap.size w w':=by
 go_enter Tryz.func68,Tryz.ntmps68
 go_wp2_with (go_at_call 67;refine(sub_any _ _ _ _ _).mono ?_;rintro e w1 ⟨rfl,hb⟩;obtain⟨hc,hf⟩:=bcell hb;have hz:w.heap.size+1<w1.heap.size:=(by have:=hb.size;simp at this;omega);have hy:w.heap.size<w1.heap.size:=(by omega);have hy1:w.heap.size<w1.heap.size+1:=(by omega);have hy2:w.heap.size+1<w1.heap.size+1:=(by omega))
 go_region
 all_goals go_wp2
 go_region
 all_goals go_wp2
 all_goals
  have hB:Below w.heap.size w w1:=(((Below.refl _ _).alloc (Nat.le_refl _) _).alloc (by simp) _).trans (hb.mono (by simp;omega))
  refine bodyPost_ret (v:=.tuple #[.int .u32 (subV v 1 n false),.agg #[.bool fc,.bool (par (subV v 1 n false)),.bool (zer (subV v 1 n false)),.bool (hi (subV v 1 n false) n),.bool (subO v 1 n false),.bool fd]]) (by simp[results,Tryz.results68,go_sem,hc,hz]) rfl ⟨rfl,?_⟩
  repeat' (first|(with_reducible exact hB)|(with_reducible refine Below.drew ?_)|(with_reducible refine Below.setCell ?_ ?_ _)|(with_reducible refine Below.alloc ?_ ?_ _)|(simp<;>omega))
theorem step_any(fc fp fz fs fo fd:Bool)(v n i:Int)(w:World):Calls Tryz.prog 68 #[.agg #[.bool fc,.bool fp,.bool fz,.bool fs,.bool fo,.bool fd],.int .u32 v,.int .i64 n,.int .i64 i] w fun e w'=>
  e=.returned (.tuple #[.int .u32 (stepV v n i),.agg #[.bool fc,.bool (par (stepV v n i)),.bool (zer (stepV v n i)),.bool (hi (stepV v n i) n),.bool (stepO v n i),.bool fd]])∧Below w.heap.size w w':=by
 unfold stepV stepO
 by_cases h:0<i
 ·simp only[if_pos h]
  exact step_pos fc fp fz fs fo fd v n i h w
 ·simp only[if_neg h]
  exact step_neg fc fp fz fs fo fd v n i (by omega) w
end
section
open Go.ChangeShapes Go.WideShapes Go.ChangeAt Go.RowKit
set_option maxRecDepth 100000
theorem sgn_four(v:Int):sgn v 4=wrap32 v:=by
 unfold sgn hi bt cut wid wrap32
 simp
 split<;>omega
theorem msigned_any(v:Int)(w:World):Calls Tryz.prog 125 #[.int .u32 v] w fun e w'=>e=.returned (.int .i64 (wrap32 v))∧w=w':=by
 have h0:=wrap32_lo v
 have h1:=wrap32_hi v
 have e:=sgn_four v
 go_enter Tryz.func125,Tryz.ntmps125
 go_wp2_with (go_at_call 128;refine(signed_any _ _ _).mono ?_;rintro e w' ⟨rfl,rfl⟩)
 go_ret
 exact⟨rfl,rfl⟩
theorem fits_any(v:Int)(w:World):Calls Tryz.prog 126 #[.int .i64 v] w fun e w'=>e=.returned (.bool (v==wrap32 v))∧w=w':=by
 have h0:=wrap32_lo v
 have h1:=wrap32_hi v
 go_enter Tryz.func126,Tryz.ntmps126
 go_wp2
 go_ret
 exact⟨rfl,rfl⟩
theorem halves_any(v:Int)(h0:0≤v)(h1:v≤18446744073709551615)(w:World):Calls Tryz.prog 123 #[.int .u64 v] w fun e w'=>e=.returned (.tuple #[.int .u32 (v/4294967296),.int .u32 (v%4294967296)])∧w=w':=by
 go_enter Tryz.func123,Tryz.ntmps123
 go_wp2
 go_ret2
 exact⟨rfl,rfl⟩
theorem halves_w(v:Int)(w:World):Calls Tryz.prog 123 #[.int .u64 (IntKind.u64.wrap v)] w fun e w'=>e=.returned (.tuple #[.int .u32 (v%18446744073709551616/4294967296),.int .u32 (v%4294967296)])∧w=w':=by
 have h:=halves_any (IntKind.u64.wrap v) (by rw[IntKind.wrap_u64];omega) (by rw[IntKind.wrap_u64];omega) w
 rw[IntKind.wrap_u64,show v%18446744073709551616%4294967296=v%4294967296 by omega]at h
 rw[IntKind.wrap_u64]
 exact h
theorem joined_any(h l:Int)(h0:0≤h)(h1:h<4294967296)(l0:0≤l)(l1:l<4294967296)(w:World):Calls Tryz.prog 127 #[.int .u32 h,.int .u32 l] w fun e w'=>e=.returned (.int .u64 (both h l))∧w=w':=by
 have hO:=both_or h l h0 h1 l0 l1
 go_enter Tryz.func127,Tryz.ntmps127
 go_wp2
 go_ret
 exact⟨rfl,rfl⟩
theorem told_any(fc fp fz fs fo fd o:Bool)(w:World):Calls Tryz.prog 124 #[.agg #[.bool fc,.bool fp,.bool fz,.bool fs,.bool fo,.bool fd],.bool o] w fun e w'=>
  e=.returned (.agg #[.bool o,.bool fp,.bool fz,.bool fs,.bool o,.bool fd])∧Below w.heap.size w w':=by
 go_enter Tryz.func124,Tryz.ntmps124
 go_wp2
 refine bodyPost_ret (v:=.agg #[.bool o,.bool fp,.bool fz,.bool fs,.bool o,.bool fd]) (by simp[results,Tryz.results124,go_sem]) rfl ⟨rfl,?_⟩
 exact((Below.refl _ _).alloc (Nat.le_refl _) _).alloc (by simp) _
attribute [local go_sem] isSome_setCell
set_option maxHeartbeats 1000000
theorem mul_any(fc fp fz fs fo fd:Bool)(a b:Int)(h0:0≤a)(h1:a<4294967296)(k0:0≤b)(k1:b<4294967296)(w:World):
  Calls Tryz.prog 93 #[.agg #[.bool fc,.bool fp,.bool fz,.bool fs,.bool fo,.bool fd],.int .u32 a,.int .u32 b] w fun e w'=>
  e=.returned (.tuple #[.int .u32 (mulH a b),.int .u32 (mulL a b),.agg #[.bool (mulC a b),.bool fp,.bool fz,.bool fs,.bool (mulC a b),.bool fd]])∧Below w.heap.size w w':=by
 have m0:=mul_lo a b h0 k0
 have m1:=mul_hi a b h1 k0 k1
 have hH:=Lib.hid (show mulH a b=a*b/4294967296 from rfl)
 have hL:=Lib.hid (show mulL a b=a*b%4294967296 from rfl)
 have hC:=Lib.hid (show mulC a b=(a*b/4294967296 != 0)from rfl)
 generalize hP:a*b=P at *
 go_enter Tryz.func93,Tryz.ntmps93
 go_wp2_with (first|(go_at_call 123;refine(halves_any _ ?_ ?_ _).mono ?_;rotate_left 2;rintro e w' ⟨rfl,rfl⟩;rotate_left 1;omega;omega)|(go_at_call 124;refine(told_any _ _ _ _ _ _ _ _).mono ?_;rintro e w1 ⟨rfl,hb⟩;obtain⟨hc,hf⟩:=bcell hb;have hz:w.heap.size+1<w1.heap.size:=(by have:=hb.size;simp at this;omega);have hy:w.heap.size<w1.heap.size:=(by omega)))
 all_goals
  go_wp2
  have hB:Below w.heap.size w w1:=(((Below.refl _ _).alloc (Nat.le_refl _) _).alloc (by simp) _).trans (hb.mono (by simp;omega))
  refine bodyPost_ret (v:=.tuple #[.int .u32 (mulH a b),.int .u32 (mulL a b),.agg #[.bool (mulC a b),.bool fp,.bool fz,.bool fs,.bool (mulC a b),.bool fd]]) (by rw[hH.out,hL.out,hC.out];simp[results,Tryz.results93,go_sem,hc]) rfl ⟨rfl,?_⟩
  repeat' (first|(with_reducible exact hB)|(with_reducible refine Below.drew ?_)|(with_reducible refine Below.setCell ?_ ?_ _)|(with_reducible refine Below.alloc ?_ ?_ _)|(simp<;>omega))
theorem imulC_eq(a b:Int):imulC a b=!(imulP a b==wrap32 (imulP a b)):=by
 unfold imulC
 generalize imulP a b=P
 rw[Bool.eq_iff_iff]
 unfold wrap32
 simp
 omega
theorem imul_any(fc fp fz fs fo fd:Bool)(a b:Int)(_h0:0≤a)(_h1:a<4294967296)(_k0:0≤b)(_k1:b<4294967296)(w:World):
  Calls Tryz.prog 94 #[.agg #[.bool fc,.bool fp,.bool fz,.bool fs,.bool fo,.bool fd],.int .u32 a,.int .u32 b] w fun e w'=>
  e=.returned (.tuple #[.int .u32 (imulH a b),.int .u32 (imulL a b),.agg #[.bool (imulC a b),.bool fp,.bool fz,.bool fs,.bool (imulC a b),.bool fd]])∧Below w.heap.size w w':=by
 have a0:=wrap32_lo a
 have a1:=wrap32_hi a
 have b0:=wrap32_lo b
 have b1:=wrap32_hi b
 have p0:=imul_lo a b
 have p1:=imul_hi a b
 have hP:wrap32 a*wrap32 b=imulP a b:=rfl
 have hH:=Lib.hid (show imulH a b=imulP a b%18446744073709551616/4294967296 from rfl)
 have hL:=Lib.hid (show imulL a b=imulP a b%4294967296 from rfl)
 have hC:=Lib.hid (imulC_eq a b)
 generalize imulP a b=P at *
 go_enter Tryz.func94,Tryz.ntmps94
 go_wp2_with (first|(go_at_call 125;refine(msigned_any _ _).mono ?_;rintro e w' ⟨rfl,rfl⟩)|(go_at_call 123;refine(halves_w _ _).mono ?_;rintro e w' ⟨rfl,rfl⟩))
 go_region_with (first|(go_at_call 126;(with_reducible refine(fits_any _ _).mono ?_);rintro e w' ⟨rfl,rfl⟩)|(go_at_call 124;(with_reducible refine(told_any fc fp fz fs fo fd _ _).mono ?_);rintro e w1 ⟨rfl,hb'⟩;have hb:=below_undrew hb';clear hb';obtain⟨hc,hf⟩:=bcell hb;have hz:w.heap.size+1<w1.heap.size:=(by have:=hb.size;simp at this;omega);have hy:w.heap.size<w1.heap.size:=(by omega)))
 all_goals
  go_wp2
  have hB:Below w.heap.size w w1:=(((Below.refl _ _).alloc (Nat.le_refl _) _).alloc (by simp) _).trans (hb.mono (by simp;omega))
  refine bodyPost_ret (v:=.tuple #[.int .u32 (imulH a b),.int .u32 (imulL a b),.agg #[.bool (imulC a b),.bool fp,.bool fz,.bool fs,.bool (imulC a b),.bool fd]]) (by rw[hH.out,hL.out,hC.out];simp[results,Tryz.results94,go_sem,hc]) rfl ⟨rfl,?_⟩
  repeat' (first|(with_reducible exact hB)|(with_reducible refine Below.drew ?_)|(with_reducible refine Below.setCell ?_ ?_ _)|(with_reducible refine Below.alloc ?_ ?_ _)|(simp<;>omega))
theorem fits_iff(q:Int):(q==wrap32 q)=decide (-2147483648≤q∧q≤2147483647):=by
 rw[Bool.eq_iff_iff]
 unfold wrap32
 simp
 omega
theorem both_q'(h l d:Int)(l0:0≤l)(d0:0<d)(hd:¬h<d):((both h l/d)/4294967296 != 0)=true:=by
 have:4294967296≤both h l/d:=by
  rw[Int.le_ediv_iff_mul_le d0]
  unfold both
  have:=Int.mul_le_mul_of_nonneg_left (show d≤h by omega) (show(0:Int)≤4294967296 by decide)
  rw[Int.mul_comm h]
  omega
 generalize both h l/d=q at *
 simp
 omega
theorem div_any(h l d:Int)(h0:0≤h)(h1:h<4294967296)(l0:0≤l)(l1:l<4294967296)(k0:0≤d)(k1:d<4294967296)(w:World):
  Calls Tryz.prog 95 #[.int .u32 h,.int .u32 l,.int .u32 d] w fun e w'=>
  e=.returned (.tuple #[.int .u32 (divQ h l d),.int .u32 (divR h l d),.bool (divOk h d)])∧Below w.heap.size w w':=by
 by_cases dz:d=0
 ·have hQ:=Lib.hid (show divQ h l d=0 by unfold divQ;rw[if_neg (by omega)])
  have hR:=Lib.hid (show divR h l d=0 by unfold divR;rw[if_neg (by omega)])
  have hK:=Lib.hid (show divOk h d=false by unfold divOk;simp;omega)
  have dz':(d==0)=true:=by rw[beq_iff_eq];exact dz
  clear dz
  go_enter Tryz.func95,Tryz.ntmps95
  go_wp2
  refine bodyPost_ret (v:=.tuple #[.int .u32 (divQ h l d),.int .u32 (divR h l d),.bool (divOk h d)]) (by rw[hQ.out,hR.out,hK.out];simp[results,Tryz.results95,go_sem]) rfl ⟨rfl,Below.refl _ _⟩
 ·have dz':(d==0)=false:=by rw[beq_eq_false_iff_ne];exact dz
  have dp:0<d:=by omega
  have n0:0≤both h l:=by unfold both;omega
  have n1:both h l≤18446744073709551615:=by unfold both;omega
  have r0:0≤both h l%d:=Int.emod_nonneg _ (by omega)
  have r1:both h l%d<4294967296:=by have:=Int.emod_lt_of_pos (both h l) dp;omega
  have q0:0≤both h l/d:=Int.ediv_nonneg n0 (by omega)
  have q1:both h l/d≤18446744073709551615:=by have:=Int.ediv_le_self d n0;omega
  by_cases hd:h<d
  ·obtain⟨q2,q3⟩:=both_q h l d h0 l0 l1 hd
   have hQ:=Lib.hid (show divQ h l d=both h l/d by unfold divQ;rw[if_pos hd])
   have hR:=Lib.hid (show divR h l d=both h l%d by unfold divR;rw[if_pos hd])
   have hK:=Lib.hid (show divOk h d=true by unfold divOk;simp[hd])
   have ho:(both h l/d/4294967296 != 0)=false:=by
    generalize both h l/d=q at *
    simp
    omega
   generalize hN:both h l=N at *
   go_enter Tryz.func95,Tryz.ntmps95
   go_wp2_with (first|(go_at_call 127;refine(joined_any _ _ h0 h1 l0 l1 _).mono ?_;rintro e w' ⟨rfl,rfl⟩)|(go_at_call 123;refine(halves_any _ q0 q1 _).mono ?_;rintro e w' ⟨rfl,rfl⟩))
   go_region
   all_goals
    go_wp2_with (go_at_call 123;refine(halves_any _ q0 q1 _).mono ?_;rintro e w' ⟨rfl,rfl⟩)
    (try go_region)
    all_goals
     (try go_wp2)
     refine bodyPost_ret (v:=.tuple #[.int .u32 (divQ h l d),.int .u32 (divR h l d),.bool (divOk h d)]) (by rw[hQ.out,hR.out,hK.out];simp[results,Tryz.results95,go_sem]) rfl ⟨rfl,?_⟩
     repeat' (first|(with_reducible exact Below.refl _ _)|(with_reducible refine Below.drew ?_))
  ·have ho:=both_q' h l d l0 dp hd
   have hQ:=Lib.hid (show divQ h l d=0 by unfold divQ;rw[if_neg hd])
   have hR:=Lib.hid (show divR h l d=0 by unfold divR;rw[if_neg hd])
   have hK:=Lib.hid (show divOk h d=false by unfold divOk;simp;omega)
   generalize hN:both h l=N at *
   go_enter Tryz.func95,Tryz.ntmps95
   go_wp2_with (first|(go_at_call 127;refine(joined_any _ _ h0 h1 l0 l1 _).mono ?_;rintro e w' ⟨rfl,rfl⟩)|(go_at_call 123;refine(halves_any _ q0 q1 _).mono ?_;rintro e w' ⟨rfl,rfl⟩))
   go_region
   all_goals
    go_wp2_with (go_at_call 123;refine(halves_any _ q0 q1 _).mono ?_;rintro e w' ⟨rfl,rfl⟩)
    (try go_region)
    all_goals
     (try go_wp2)
     refine bodyPost_ret (v:=.tuple #[.int .u32 (divQ h l d),.int .u32 (divR h l d),.bool (divOk h d)]) (by rw[hQ.out,hR.out,hK.out];simp[results,Tryz.results95,go_sem]) rfl ⟨rfl,?_⟩
     repeat' (first|(with_reducible exact Below.refl _ _)|(with_reducible refine Below.drew ?_))
set_option maxHeartbeats 2000000
theorem idiv_any(h l b:Int)(h0:0≤h)(h1:h<4294967296)(l0:0≤l)(l1:l<4294967296)(k0:0≤b)(k1:b<4294967296)(w:World):
  Calls Tryz.prog 96 #[.int .u32 h,.int .u32 l,.int .u32 b] w fun e w'=>
  e=.returned (.tuple #[.int .u32 (idQ h l b),.int .u32 (idR h l b),.bool (idOk h l b)])∧Below w.heap.size w w':=by
 have n0:-9223372036854775808≤idN h l:=wrap64_lo _
 have n1:idN h l≤9223372036854775807:=wrap64_hi _
 have b0:=wrap32_lo b
 have b1:=wrap32_hi b
 have hN:wrap64 (both h l)=idN h l:=rfl
 have hK:=Lib.hid (show idOk h l b=decide (wrap32 b≠0∧-2147483648≤(idN h l).tdiv (wrap32 b)∧(idN h l).tdiv (wrap32 b)≤2147483647)from rfl)
 have hQ:=Lib.hid (show idQ h l b=if idOk h l b then(idN h l).tdiv (wrap32 b)%4294967296 else 0 from rfl)
 have hR:=Lib.hid (show idR h l b=if idOk h l b then(idN h l).tmod (wrap32 b)%4294967296 else 0 from rfl)
 obtain⟨D,hD⟩:∃D:Int,wrap32 b=D:=⟨_,rfl⟩
 have hbD:b=0↔D=0:=by
  rw[←hD];unfold wrap32;omega
 rw[hD]at b0 b1 hK hQ hR
 generalize idN h l=N at *
 by_cases dz:b=0
 ·have dz':(b==0)=true:=by rw[beq_iff_eq];exact dz
  have hK':=Lib.hid (show idOk h l b=false by rw[hK.out];simp[hbD.1 dz])
  clear dz hbD
  go_enter Tryz.func96,Tryz.ntmps96
  go_wp2
  refine bodyPost_ret (v:=.tuple #[.int .u32 (idQ h l b),.int .u32 (idR h l b),.bool (idOk h l b)]) (by rw[hQ.out,hR.out,hK'.out];simp[results,Tryz.results96,go_sem]) rfl ⟨rfl,Below.refl _ _⟩
 ·have dz':(b==0)=false:=by rw[beq_eq_false_iff_ne];exact dz
  have dD:D≠0:=fun e=>dz (hbD.2 e)
  have dD':(D==0)=false:=by rw[beq_eq_false_iff_ne];exact dD
  clear hbD dz
  have hS:∀w:World,Calls Tryz.prog 125 #[.int .u32 b] w fun e w'=>e=.returned (.int .i64 D)∧w=w':=by
   intro w;have h:=msigned_any b w;rw[hD]at h;exact h
  by_cases hx:N=-9223372036854775808∧D=-1
  ·obtain⟨rfl,rfl⟩:=hx
   have hK':=Lib.hid (show idOk h l b=false by rw[hK.out];decide)
   have hF:∀w:World,Calls Tryz.prog 126 #[.int .i64 (wrap64 9223372036854775808)] w fun e w'=>e=.returned (.bool false)∧w=w':=by
    intro w;have h:=fits_any (wrap64 9223372036854775808) w;rw[show(wrap64 9223372036854775808==wrap32 (wrap64 9223372036854775808))=false by unfold wrap64 wrap32;decide]at h;exact h
   go_enter Tryz.func96,Tryz.ntmps96
   go_wp2_with (first|(go_at_call 127;refine(joined_any _ _ h0 h1 l0 l1 _).mono ?_;rintro e w' ⟨rfl,rfl⟩)|(go_at_call 125;refine(hS _).mono ?_;rintro e w' ⟨rfl,rfl⟩))
   rw[hN]
   go_region_with (go_at_call 125;(with_reducible refine(hS _).mono ?_);rintro e w' ⟨rfl,rfl⟩)
   all_goals
    go_wp2_with (go_at_call 126;refine(hF _).mono ?_;rintro e w' ⟨rfl,rfl⟩)
    (try go_region)
    all_goals
     (try go_wp2)
     refine bodyPost_ret (v:=.tuple #[.int .u32 (idQ h l b),.int .u32 (idR h l b),.bool (idOk h l b)]) (by rw[hQ.out,hR.out,hK'.out];simp[results,Tryz.results96,go_sem]) rfl ⟨rfl,?_⟩
     repeat' (first|(with_reducible exact Below.refl _ _)|(with_reducible refine Below.drew ?_))
  ·obtain⟨t0,t1⟩:=tdiv_64 N D n0 n1 hx
   obtain⟨r0,r1⟩:=tmod_32 N D b0 b1 dD
   clear hx
   by_cases c:-2147483648≤N.tdiv D∧N.tdiv D≤2147483647
   ·have hK':=Lib.hid (show idOk h l b=true by rw[hK.out];simp;omega)
    have hF:∀w:World,Calls Tryz.prog 126 #[.int .i64 (N.tdiv D)] w fun e w'=>e=.returned (.bool true)∧w=w':=by
     intro w;have h:=fits_any (N.tdiv D) w;rw[fits_iff,decide_eq_true c]at h;exact h
    clear c
    go_enter Tryz.func96,Tryz.ntmps96
    go_wp2_with (first|(go_at_call 127;refine(joined_any _ _ h0 h1 l0 l1 _).mono ?_;rintro e w' ⟨rfl,rfl⟩)|(go_at_call 125;refine(hS _).mono ?_;rintro e w' ⟨rfl,rfl⟩))
    rw[hN]
    go_region_with (go_at_call 125;(with_reducible refine(hS _).mono ?_);rintro e w' ⟨rfl,rfl⟩)
    all_goals
     go_wp2_with (go_at_call 126;refine(hF _).mono ?_;rintro e w' ⟨rfl,rfl⟩)
     (try go_region)
     all_goals
      (try go_wp2)
      refine bodyPost_ret (v:=.tuple #[.int .u32 (idQ h l b),.int .u32 (idR h l b),.bool (idOk h l b)]) (by rw[hQ.out,hR.out,hK'.out];simp[results,Tryz.results96,go_sem]) rfl ⟨rfl,?_⟩
      repeat' (first|(with_reducible exact Below.refl _ _)|(with_reducible refine Below.drew ?_))
   ·have hK':=Lib.hid (show idOk h l b=false by rw[hK.out];simp;omega)
    have hF:∀w:World,Calls Tryz.prog 126 #[.int .i64 (N.tdiv D)] w fun e w'=>e=.returned (.bool false)∧w=w':=by
     intro w;have h:=fits_any (N.tdiv D) w;rw[fits_iff,decide_eq_false c]at h;exact h
    clear c
    go_enter Tryz.func96,Tryz.ntmps96
    go_wp2_with (first|(go_at_call 127;refine(joined_any _ _ h0 h1 l0 l1 _).mono ?_;rintro e w' ⟨rfl,rfl⟩)|(go_at_call 125;refine(hS _).mono ?_;rintro e w' ⟨rfl,rfl⟩))
    rw[hN]
    go_region_with (go_at_call 125;(with_reducible refine(hS _).mono ?_);rintro e w' ⟨rfl,rfl⟩)
    all_goals
     go_wp2_with (go_at_call 126;refine(hF _).mono ?_;rintro e w' ⟨rfl,rfl⟩)
     (try go_region)
     all_goals
      (try go_wp2)
      refine bodyPost_ret (v:=.tuple #[.int .u32 (idQ h l b),.int .u32 (idR h l b),.bool (idOk h l b)]) (by rw[hQ.out,hR.out,hK'.out];simp[results,Tryz.results96,go_sem]) rfl ⟨rfl,?_⟩
      repeat' (first|(with_reducible exact Below.refl _ _)|(with_reducible refine Below.drew ?_))
end
end Go.Proofs.YtmdncgfheeijaaaGreat
