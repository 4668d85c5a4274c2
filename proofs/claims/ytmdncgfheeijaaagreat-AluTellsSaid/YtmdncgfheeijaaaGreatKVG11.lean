import Derived.Test.YtmdncgfheeijaaaGreatKVG5
namespace Go.Proofs.YtmdncgfheeijaaaGreat
section
open Go
section
variable {P:Program} {ops:Array Oper} {Q:Exit→Act→World→Prop} {md:Region.Mode} {a0:Act} {γ:Type} {Inv:World→γ→Prop} {p:Nat→(Nat→Value)→World→γ→Prop} {G:World→γ→World→γ→Prop} {look:Nat→List Nat}
set_option maxRecDepth 100000
theorem yielded_got{j:Nat}{a:Act}{b:Bool}(h:got ops a j=.bool b):yielded ops a.tmps j=some b:=by
 unfold got at h
 unfold yielded
 cases hd:(ops[j]?).bind (·.dst)with
 |none=>rw[hd]at h;cases h
 |some t=>
  rw[hd]at h
  simp only[Option.bind_some]at h ⊢
  rw[Array.getD_eq_getD_getElem?]at h
  cases ht:a.tmps[t]? with
  |none=>rw[ht]at h;cases h
  |some v=>
   rw[ht,Option.getD_some]at h
   subst h
   rfl
theorem wpOp_met{i:Nat}{o:Oper}(ho:ops[i]?=some o)(j:Nat)(v:Bool)(hg:o.guard=some (j,v)){K:Act→World→Prop}{a:Act}{w:World}(hj:got ops a j=.bool v)(h:o.wp P a w K Q):wpOp P ops Q i K a w:=by
 unfold wpOp
 simp only[ho]
 rw[if_pos (by simp[Region.wanted,hg,yielded_got hj])]
 exact .inl h
theorem wp_region_midG(hm:P.follows .mixedOrders=true){id:Nat}{a:Act}{w:World}
  (hd:∀(i j:Nat) (oi oj:Oper) (t:Tmp),ops[i]?=some oi→ops[j]?=some oj→oi.dst=some t→oj.dst=some t→i=j)
  (hsz:∀(i:Nat) (o:Oper) (t:Tmp),ops[i]?=some o→o.dst=some t→t<a.tmps.size)
  (hlt:∀(i:Nat) (o:Oper),ops[i]?=some o→∀e∈o.after,Region.binds .any e=true→e.on<i)
  (look:Nat→List Nat) (hlook:∀(i:Nat) (o:Oper) (k:Nat),ops[i]?=some o→k∈look i→(k=i∧o.dst≠none)∨∃e∈o.after,Region.binds .any e=true∧e.on=k)
  (g0:γ) (Inv:World→γ→Prop) (G:World→γ→World→γ→Prop) (p:Nat→(Nat→Value)→World→γ→Prop)
  (hp:∀i f f' w g w' g',p i f w g→(∀k∈look i,f k=f' k)→G w g w' g'→p i f' w' g') (hG:∀w g,G w g w g) (h0:Inv { w with drawn:=w.drawn+1 } g0)
  (step:∀(i:Nat) (o:Oper) (b:Act) (w:World) (g:γ),ops[i]?=some o→Inv w g→b.tmps.size=a.tmps.size→(∀t,(∀(i:Nat) (o:Oper),ops[i]?=some o→o.dst≠some t)→b.tmps.getD t undef=a.tmps.getD t undef) →
   (∀e∈o.after,Region.binds .any e=true→p e.on (got ops b) w g) →
   wpOp P ops Q i (fun b' w'=>∃v g',b'=b.put o.dst v∧Inv w' g'∧G w g w' g'∧p i (fun k=>if k=i then v else got ops b k) w' g') b w)
  (fin:∀b w g,b.tmps.size=a.tmps.size→b.defers=a.defers→(∀t,(∀(i:Nat) (o:Oper),ops[i]?=some o→o.dst≠some t)→b.tmps.getD t undef=a.tmps.getD t undef)→Inv w g→(∀i,i<ops.size→p i (got ops b) w g)→Q .normal b w):
  (Code.region id ops true).wp P Q a w:=by
 refine wp_region_any hm (wpAny_midG (look:=look) hd hsz hlt hlook hp hG (fun i o b u g ho hi hs _ hb hd=>step i o b u g ho hi hs hb hd) fin ops.size _ a _ g0 ?_ ⟨by simp,rfl,rfl,fun _ _=>rfl,h0,?_,?_⟩)
 ·exact Nat.le_trans List.countP_le_length (by simp)
 ·intro j o _ hj
  have:(Array.replicate ops.size false).getD j false=false:=by simp[Array.getD_eq_getD_getElem?,Array.getElem?_replicate];split<;>rfl
  rw[this]at hj;cases hj
 ·intro j hj
  have:(Array.replicate ops.size false).getD j false=false:=by simp[Array.getD_eq_getD_getElem?,Array.getElem?_replicate];split<;>rfl
  rw[this]at hj;cases hj
def fitG(ops:Array Oper)(look:Nat→List Nat)(n:Nat):Bool:=
 (List.range ops.size).all fun i=>
  match ops[i]? with
  |none=>true
  |some o=>((match o.dst with
    |some t=>decide (t<n)&&(List.range ops.size).all (fun j=>j==i || ((ops[j]?).bind (·.dst)) != some t)
    |none=>true)&&(o.after.all (fun e=>!Region.binds .any e || decide (e.on<i))&&(look i).all (fun k=>(k==i&&o.dst.isSome) || o.after.any (fun e=>Region.binds .any e&&e.on==k))))
theorem fitG_at{look:Nat→List Nat}{n:Nat}(h:fitG ops look n=true){i:Nat}{o:Oper}(ho:ops[i]?=some o):
  (∀t,o.dst=some t→t<n∧∀(j:Nat) (oj:Oper),ops[j]?=some oj→oj.dst=some t→j=i)∧(∀e∈o.after,Region.binds .any e=true→e.on<i)∧(∀k∈look i,(k=i∧o.dst≠none)∨∃e∈o.after,Region.binds .any e=true∧e.on=k):=by
 have hi:i<ops.size:=(Array.getElem?_eq_some_iff.1 ho).1
 have h1:=List.all_eq_true.1 h i (List.mem_range.2 hi)
 rw[ho]at h1
 simp only[Bool.and_eq_true]at h1
 obtain⟨g2,g3,g4⟩:=h1
 refine⟨?_,?_,?_⟩
 ·intro t ht
  rw[ht]at g2
  simp only[Bool.and_eq_true,decide_eq_true_eq]at g2
  refine⟨g2.1,fun j oj hj hd=>?_⟩
  have h2:=List.all_eq_true.1 g2.2 j (List.mem_range.2 (Array.getElem?_eq_some_iff.1 hj).1)
  rw[hj]at h2
  simp[hd]at h2
  exact h2
 ·intro e he hb
  have:=Array.all_eq_true'.1 g3 e he
  rw[hb]at this
  simpa using this
 ·intro k hk
  have h2:=List.all_eq_true.1 g4 k hk
  simp only[Bool.or_eq_true,Bool.and_eq_true,beq_iff_eq]at h2
  rcases h2 with⟨h3,h4⟩|h3
  ·exact .inl ⟨h3,fun e=>by rw[e]at h4;cases h4⟩
  ·rw[Array.any_eq_true']at h3
   obtain⟨e,he,h4⟩:=h3
   simp only[Bool.and_eq_true,beq_iff_eq]at h4
   exact .inr ⟨e,he,h4⟩
theorem wp_region_valsG(hm:P.follows .mixedOrders=true){id:Nat}{a:Act}{w:World}(nod:Nat→Bool)(hfit:fitG ops (eyes nod fun i=>i) a.tmps.size=true)
  (Inv:World→Prop) (G:World→World→Prop) (V:Nat→Value→World→Prop)
  (hp:∀i v u u',V i v u→G u u'→V i v u') (hG:∀w,G w w) (h0:Inv { w with drawn:=w.drawn+1 })
  (step:∀(i:Nat) (o:Oper) (b:Act) (u:World),ops[i]?=some o→Inv u→b.tmps.size=a.tmps.size→(∀t,noDst ops t=true→b.tmps.getD t undef=a.tmps.getD t undef) →
   (∀j,need o j=true→V j (left nod (got ops b) j) u) →
   wpOp P ops Q i (fun b' u'=>∃v,b'=b.put o.dst v∧Inv u'∧G u u'∧V i (if nod i then undef else v) u') b u)
  (fin:∀(f:Nat→Value) u,Inv u→(∀i,i<ops.size→V i (left nod f i) u)→Q .normal (laid ops f a ops.size) u):
  (Code.region id ops true).wp P Q a w:=by
 have hsz:∀(i:Nat) (o:Oper) (t:Tmp),ops[i]?=some o→o.dst=some t→t<a.tmps.size:=fun _ _ t ho hd=>((fitG_at hfit ho).1 t hd).1
 refine wp_region_midG (γ:=Unit) hm (fun _ _ _ _ t hi hj hd he=>((fitG_at hfit hj).1 t he).2 _ _ hi hd) hsz (fun _ _ ho=>(fitG_at hfit ho).2.1) (eyes nod fun i=>i) (fun _ _ k ho hk=>(fitG_at hfit ho).2.2 k hk) () (fun u _=>Inv u) (fun u _ u' _=>G u u') (fun i f u _=>V i (left nod f i) u) ?_ (fun w _=>hG w) h0 ?_ ?_
 ·intro i f f' u _ u' _ h hl hg
  have e:left nod f i=left nod f' i:=by
   unfold left
   by_cases hn:nod i=true
   ·rw[if_pos hn,if_pos hn]
   ·rw[if_neg hn,if_neg hn]
    exact hl i (by unfold eyes;rw[if_neg hn];simp)
  rw[←e]
  exact hp i _ u u' h hg
 ·intro i o b u _ ho hi hs hb hd
  refine wpOp_mono ?_ (step i o b u ho hi hs (fun t ht=>hb t (noDst_at ht)) (fun j hj=>by
   unfold need at hj
   rw[Array.any_eq_true']at hj
   obtain⟨e,he,h4⟩:=hj
   simp only[Bool.and_eq_true,beq_iff_eq]at h4
   have:=hd e he h4.1
   rwa[h4.2]at this))
  rintro b' u' ⟨v,h1,h2,h3,h4⟩
  refine⟨v,(),h1,h2,h3,?_⟩
  have e:left nod (fun k=>if k=i then v else got ops b k) i=if nod i then undef else v:=by
   unfold left
   simp
  rw[e]
  exact h4
 ·intro b u _ h1 h2 h3 h4 h5
  have:=fin (got ops b) u h4 h5
  rwa[←laid_all hsz h1 h2 h3]at this
end
end
section
open Go
set_option maxRecDepth 100000
def tabAt:List (Option Value)→Nat→Option Value
 |[],_=>none
 |x :: _,0=>x
 |_ :: l,n+1=>tabAt l n
theorem tab_at{v w:Value}(h:some v=some w):w=v:=(Option.some.inj h).symm
def envV(V:Value):Operand→Value
 | .tmp _=>V
 | .const c=>c
 | .global g=>.pointer (some ⟨g,0,none⟩)
 | .func f=>.func (.func f) #[] #[]
def AutoD(P:Program)(ops:Array Oper)(nod:Nat→Bool)(C:World→Prop)(tab:List (Option Value))(p:Nat×Nat×Nat):Prop:=
 ∃o,ops[p.1]?=some o∧need o p.2.1=true∧(ops[p.2.1]?).bind (·.dst)=some p.2.2∧nod p.2.1=false∧nod p.1=false∧(∀b:Act,execOp b.eval o=execOp (envV (b.tmps.getD p.2.2 undef)) o)∧∀V,tabAt tab p.2.1=some V→∃v,tabAt tab p.1=some v∧∀u,C u→(execOp (envV V) o).run P u=.ok (.value v) u
def AutoB(P:Program)(ops:Array Oper)(nod:Nat→Bool)(C:World→Prop)(tab:List (Option Value))(a:Act)(p:Nat×Nat):Prop:=
 ∃o,ops[p.1]?=some o∧noDst ops p.2=true∧nod p.1=false∧(∀b:Act,execOp b.eval o=execOp (envV (b.tmps.getD p.2 undef)) o)∧∃v,tabAt tab p.1=some v∧∀u,C u→(execOp (envV (a.tmps.getD p.2 undef)) o).run P u=.ok (.value v) u
def AllD(P:Program)(ops:Array Oper)(nod:Nat→Bool)(C:World→Prop)(tab:List (Option Value)):List (Nat×Nat×Nat)→Prop
 |[]=>True
 |p :: l=>AutoD P ops nod C tab p∧AllD P ops nod C tab l
def AllB(P:Program)(ops:Array Oper)(nod:Nat→Bool)(C:World→Prop)(tab:List (Option Value))(a:Act):List (Nat×Nat)→Prop
 |[]=>True
 |p :: l=>AutoB P ops nod C tab a p∧AllB P ops nod C tab a l
section
variable {P:Program} {ops:Array Oper} {nod:Nat→Bool} {C:World→Prop} {tab:List (Option Value)} {Q:Exit→Act→World→Prop} {a b:Act} {u:World} {i:Nat} {o:Oper}
def Leaves1(P:Program)(Q:Exit→Act→World→Prop)(nod:Nat→Bool)(C:World→Prop)(tab:List (Option Value))(i:Nat)(o:Oper)(b:Act)(u:World):Prop:=
 o.wp P b u (fun b' u'=>∃v,b'=b.put o.dst v∧C u'∧tabAt tab i=some (if nod i then undef else v)) Q
theorem all_d:∀{l:List (Nat×Nat×Nat)},AllD P ops nod C tab l→∀p∈l,AutoD P ops nod C tab p
 |[],_,_,h=>by cases h
 |_ :: _,h,p,hp=>(List.mem_cons.1 hp).elim (fun e=>e ▸ h.1) (fun q=>all_d h.2 p q)
theorem all_b:∀{l:List (Nat×Nat)},AllB P ops nod C tab a l→∀p∈l,AutoB P ops nod C tab a p
 |[],_,_,h=>by cases h
 |_ :: _,h,p,hp=>(List.mem_cons.1 hp).elim (fun e=>e ▸ h.1) (fun q=>all_b h.2 p q)
theorem got_at{j t:Nat}(hd:(ops[j]?).bind (·.dst)=some t):got ops b j=b.tmps.getD t undef:=by unfold got;rw[hd]
theorem auto_d{p:Nat×Nat×Nat}(h:AutoD P ops nod C tab p)(ho:ops[p.1]?=some o)(hC:C u)(hdep:need o p.2.1=true→tabAt tab p.2.1=some (left nod (got ops b) p.2.1)):∃v,nod p.1=false∧tabAt tab p.1=some v∧(execOp b.eval o).run P u=.ok (.value v) u:=by
 obtain⟨o',ho',h1,h2,h3,h4,h5,h6⟩:=h
 rw[ho]at ho'
 cases ho'
 obtain⟨v,hv,hr⟩:=h6 _ (hdep h1)
 refine⟨v,h4,hv,?_⟩
 rw[h5]
 have e:left nod (got ops b) p.2.1=b.tmps.getD p.2.2 undef:=by unfold left;rw[h3,if_neg (by decide),got_at h2]
 rw[←e]
 exact hr u hC
theorem auto_b{p:Nat×Nat}(h:AutoB P ops nod C tab a p)(ho:ops[p.1]?=some o)(hC:C u)(hbase:∀t,noDst ops t=true→b.tmps.getD t undef=a.tmps.getD t undef):∃v,nod p.1=false∧tabAt tab p.1=some v∧(execOp b.eval o).run P u=.ok (.value v) u:=by
 obtain⟨o',ho',h1,h4,h5,v,hv,hr⟩:=h
 rw[ho]at ho'
 cases ho'
 refine⟨v,h4,hv,?_⟩
 rw[h5,hbase _ h1]
 exact hr u hC
theorem auto_or{D:List (Nat×Nat×Nat)}{B:List (Nat×Nat)}{R:List Nat}{n:Nat}(hall:(List.range n).all (fun i=>D.any (fun p=>p.1==i) || B.any (fun p=>p.1==i) || R.contains i)=true)(hi:i<n):(∃p∈D,p.1=i)∨(∃p∈B,p.1=i)∨i∈R:=by
 have h:=List.all_eq_true.1 hall i (List.mem_range.2 hi)
 simp only[Bool.or_eq_true,List.any_eq_true,beq_iff_eq,List.contains_iff_mem]at h
 rcases h with(h|h)|h
 ·exact .inl h
 ·exact .inr (.inl h)
 ·exact .inr (.inr h)
theorem wp_region_autoE(hm:P.follows .mixedOrders=true){id:Nat}{w:World}(nod:Nat→Bool)(hfit:fitDraw ops (eyes nod fun i=>i) a.tmps.size=true)
  (C:World→Prop) (E:Nat→World→Prop) (tab:List (Option Value)) (D:List (Nat×Nat×Nat)) (B:List (Nat×Nat)) (R:List Nat) (hall:(List.range ops.size).all (fun i=>D.any (fun p=>p.1==i) || B.any (fun p=>p.1==i) || R.contains i)=true)
  (hE:∀i,i ∉ R→∀u,E i u) (hD:AllD P ops nod C tab D) (hB:AllB P ops nod C tab a B) (h0:C { w with drawn:=w.drawn+1 })
  (step:∀(i:Nat) (o:Oper) (b:Act) (u:World),i∈R→ops[i]?=some o→C u→b.defers=a.defers→(∀t,noDst ops t=true→b.tmps.getD t undef=a.tmps.getD t undef) →
   (∀j,need o j=true→tabAt tab j=some (left nod (got ops b) j)∧E j u) →
   o.wp P b u (fun b' u'=>∃v,b'=b.put o.dst v∧C u'∧tabAt tab i=some (if nod i then undef else v)∧E i u'∧∀j,E j u→E j u') Q)
  (fin:∀(f:Nat→Value) u,C u→(∀i,i<ops.size→tabAt tab i=some (left nod f i)∧E i u)→Q .normal (laid ops f a ops.size) u):
  (Code.region id ops true).wp P Q a w:=by
 have hsz:∀(i:Nat) (o:Oper) (t:Tmp),ops[i]?=some o→o.dst=some t→t<a.tmps.size:=fun _ _ t ho hd=>((fitDraw_at hfit ho).2.1 t hd).1
 refine wp_region_any hm (wpAny_midG (γ:=Unit) (a0:=a) (Inv:=fun u _=>C u) (G:=fun u _ u' _=>∀j,E j u→E j u') (p:=fun i f u _=>tabAt tab i=some (left nod f i)∧E i u) (look:=eyes nod fun i=>i) (fun _ _ _ _ t hi hj hd he=>((fitDraw_at hfit hj).2.1 t he).2 _ _ hi hd) hsz (fun _ _ ho=>(fitDraw_at hfit ho).2.2.1) (fun _ _ k ho hk=>(fitDraw_at hfit ho).2.2.2 k hk) ?_ (fun _ _ _ h=>h) ?_ ?_ ops.size _ a _ () ?_ ⟨by simp,rfl,rfl,fun _ _=>rfl,h0,?_,?_⟩)
 ·intro i f f' _ _ _ _ h hl hg
  have e:left nod f i=left nod f' i:=by
   unfold left
   by_cases hn:nod i=true
   ·rw[if_pos hn,if_pos hn]
   ·rw[if_neg hn,if_neg hn]
    exact hl i (by unfold eyes;rw[if_neg hn];simp)
  rw[←e]
  exact⟨h.1,hg i h.2⟩
 ·intro i o b u _ ho hC _ hdf hb hd
  refine wpOp_free ho (fitDraw_at hfit ho).1 ?_
  have hd':∀j,need o j=true→tabAt tab j=some (left nod (got ops b) j)∧E j u:=fun j hj=>by
   obtain⟨e,he,h4,hon⟩:=need_at hj
   have:=hd e he h4
   rwa[hon]at this
  have ends:∀v,tabAt tab i=some (if nod i then undef else v)→tabAt tab i=some (left nod (fun k=>if k=i then v else got ops b k) i):=fun v hv=>by
   rw[hv]
   unfold left
   simp
  by_cases hR:i∈R
  ·refine Oper.wp_mono ?_ (step i o b u hR ho hC hdf (fun t ht=>hb t (noDst_at ht)) hd')
   rintro b' u' ⟨v,h1,h2,h3,h4,h5⟩
   exact⟨v,(),h1,h2,h5,ends v h3,h4⟩
  ·have same:(∃v,nod i=false∧tabAt tab i=some v∧(execOp b.eval o).run P u=.ok (.value v) u):=by
    rcases auto_or hall (Array.getElem?_eq_some_iff.1 ho).1 with⟨p,hp,rfl⟩|⟨p,hp,rfl⟩|h
    ·exact auto_d (all_d hD p hp) ho hC (fun hj=>(hd' _ hj).1)
    ·exact auto_b (all_b hB p hp) ho hC (fun t ht=>hb t (noDst_at ht))
    ·exact absurd h hR
   obtain⟨v,hn,hv,hr⟩:=same
   exact wp_val hr ⟨v,(),rfl,hC,fun _ h=>h,ends v (by rw[hn];exact hv),hE i hR u⟩
 ·intro b u _ h1 h2 h3 h4 h5
  have:=fin (got ops b) u h4 h5
  rwa[←laid_all hsz h1 h2 h3]at this
 ·exact Nat.le_trans List.countP_le_length (by simp)
 ·intro j o _ hj
  have:(Array.replicate ops.size false).getD j false=false:=by simp[Array.getD_eq_getD_getElem?,Array.getElem?_replicate];split<;>rfl
  rw[this]at hj;cases hj
 ·intro j hj
  have:(Array.replicate ops.size false).getD j false=false:=by simp[Array.getD_eq_getD_getElem?,Array.getElem?_replicate];split<;>rfl
  rw[this]at hj;cases hj
theorem wp_region_auto(hm:P.follows .mixedOrders=true){id:Nat}{w:World}(nod:Nat→Bool)(hfit:fitDraw ops (eyes nod fun i=>i) a.tmps.size=true)
  (C:World→Prop) (tab:List (Option Value)) (D:List (Nat×Nat×Nat)) (B:List (Nat×Nat)) (R:List Nat) (hall:(List.range ops.size).all (fun i=>D.any (fun p=>p.1==i) || B.any (fun p=>p.1==i) || R.contains i)=true)
  (hD:AllD P ops nod C tab D) (hB:AllB P ops nod C tab a B) (h0:C { w with drawn:=w.drawn+1 })
  (step:∀(i:Nat) (o:Oper) (b:Act) (u:World),i∈R→ops[i]?=some o→C u→b.defers=a.defers→(∀t,noDst ops t=true→b.tmps.getD t undef=a.tmps.getD t undef) →
   (∀j,need o j=true→tabAt tab j=some (left nod (got ops b) j))→Leaves1 P Q nod C tab i o b u)
  (fin:∀(f:Nat→Value) u,C u→(∀i,i<ops.size→tabAt tab i=some (left nod f i))→Q .normal (laid ops f a ops.size) u):
  (Code.region id ops true).wp P Q a w:=
 wp_region_autoE hm nod hfit C (fun _ _=>True) tab D B R hall (fun _ _ _=>trivial) hD hB h0
  (fun i o b u hi ho hC hdf hb hd=>Oper.wp_mono (fun _ _ ⟨v,h1,h2,h3⟩=>⟨v,h1,h2,h3,trivial,fun _ h=>h⟩) (step i o b u hi ho hC hdf hb (fun j hj=>(hd j hj).1)))
  (fun f u hC hV=>fin f u hC (fun i hi=>(hV i hi).1))
theorem wp_region_autoT(hm:P.follows .mixedOrders=true){id:Nat}{w:World}(k:Nat)(ok:Oper)(hok:ops[k]?=some ok)(hk1:ops.size=k+1)(hcov:coverB ops k=true)(nod:Nat→Bool)(hfit:fitDraw ops (eyes nod fun i=>i) a.tmps.size=true)
  (C:World→Prop) (tab:List (Option Value)) (D:List (Nat×Nat×Nat)) (B:List (Nat×Nat)) (R:List Nat) (hall:(List.range k).all (fun i=>D.any (fun p=>p.1==i) || B.any (fun p=>p.1==i) || R.contains i)=true)
  (hD:AllD P ops nod C tab D) (hB:AllB P ops nod C tab a B) (h0:C { w with drawn:=w.drawn+1 })
  (step:∀(i:Nat) (o:Oper) (b:Act) (u:World),i∈R→ops[i]?=some o→C u→b.defers=a.defers→(∀t,noDst ops t=true→b.tmps.getD t undef=a.tmps.getD t undef) →
   (∀j,need o j=true→tabAt tab j=some (left nod (got ops b) j))→Leaves1 P Q nod C tab i o b u)
  (last:∀(f:Nat→Value) u,C u→(∀i,i<k→tabAt tab i=some (left nod f i))→ok.wp P (laid ops f a ops.size) u (fun b' u'=>Q .normal b' u') Q):
  (Code.region id ops true).wp P Q a w:=by
 have hsz:∀(i:Nat) (o:Oper) (t:Tmp),ops[i]?=some o→o.dst=some t→t<a.tmps.size:=fun _ _ t ho hd=>((fitDraw_at hfit ho).2.1 t hd).1
 refine wp_region_any hm (wpAny_tail (a0:=a) (Inv:=C) (G:=fun _ _=>True) (p:=fun i f _=>tabAt tab i=some (left nod f i)) (look:=eyes nod fun i=>i) k ok hok hk1 hcov (fun _ _ ho=>(fitDraw_at hfit ho).1) (fun _ _ _ _ t hi hj hd he=>((fitDraw_at hfit hj).2.1 t he).2 _ _ hi hd) hsz (fun _ _ ho=>(fitDraw_at hfit ho).2.2.1) (fun _ _ k ho hk=>(fitDraw_at hfit ho).2.2.2 k hk) ?_ (fun _=>trivial) ?_ ?_ ops.size _ a _ ?_ ?_ ⟨by simp,rfl,rfl,fun _ _=>rfl,h0,?_,?_⟩)
 ·intro i f f' _ _ h hl _
  have e:left nod f i=left nod f' i:=by
   unfold left
   by_cases hn:nod i=true
   ·rw[if_pos hn,if_pos hn]
   ·rw[if_neg hn,if_neg hn]
    exact hl i (by unfold eyes;rw[if_neg hn];simp)
  rw[←e]
  exact h
 ·intro i o b u hik ho hC _ hdf hb hd
  have hd':∀j,need o j=true→tabAt tab j=some (left nod (got ops b) j):=fun j hj=>by
   obtain⟨e,he,h4,hon⟩:=need_at hj
   have:=hd e he h4
   rwa[hon]at this
  have hL:Leaves1 P Q nod C tab i o b u:=by
   rcases auto_or hall hik with⟨p,hp,rfl⟩|⟨p,hp,rfl⟩|hR
   ·obtain⟨v,hn,hv,hr⟩:=auto_d (all_d hD p hp) ho hC (hd' _)
    exact wp_val hr ⟨v,rfl,hC,by rw[hn];exact hv⟩
   ·obtain⟨v,hn,hv,hr⟩:=auto_b (all_b hB p hp) ho hC (fun t ht=>hb t (noDst_at ht))
    exact wp_val hr ⟨v,rfl,hC,by rw[hn];exact hv⟩
   ·exact step i o b u hR ho hC hdf (fun t ht=>hb t (noDst_at ht)) hd'
  refine Oper.wp_mono ?_ hL
  rintro b' u' ⟨v,h1,h2,h3⟩
  refine⟨v,h1,h2,trivial,?_⟩
  have e:left nod (fun k=>if k=i then v else got ops b k) i=if nod i then undef else v:=by
   unfold left
   simp
  rw[e]
  exact h3
 ·intro b u h1 h2 h3 h4 h5
  have:=last (got ops b) u h4 h5
  rwa[←laid_all hsz h1 h2 h3]at this
 ·simp[Array.getD_eq_getD_getElem?,Array.getElem?_replicate];split<;>rfl
 ·exact Nat.le_trans List.countP_le_length (by simp)
 ·intro j o _ hj
  have:(Array.replicate ops.size false).getD j false=false:=by simp[Array.getD_eq_getD_getElem?,Array.getElem?_replicate];split<;>rfl
  rw[this]at hj;cases hj
 ·intro j hj
  have:(Array.replicate ops.size false).getD j false=false:=by simp[Array.getD_eq_getD_getElem?,Array.getElem?_replicate];split<;>rfl
  rw[this]at hj;cases hj
end
end
section
open Go.ChangeShapes Go.WideShapes Go.ChangeAt Go.RowKit
set_option maxRecDepth 100000
theorem pair_0(fc fp fz fs fo fd:Bool)(w:World):Calls Tryz.prog 145 #[.int .i64 0,.agg #[.bool fc,.bool fp,.bool fz,.bool fs,.bool fo,.bool fd]] w fun e w'=>e=.returned (.tuple #[.bool fo,.bool true])∧Below w.heap.size w w':=by
 go_enter Tryz.func145,Tryz.ntmps145
 go_wp2
 go_ret2
 exact⟨rfl,below_last (Below.refl _ _) _⟩
theorem pair_1(fc fp fz fs fo fd:Bool)(w:World):Calls Tryz.prog 145 #[.int .i64 1,.agg #[.bool fc,.bool fp,.bool fz,.bool fs,.bool fo,.bool fd]] w fun e w'=>e=.returned (.tuple #[.bool fc,.bool true])∧Below w.heap.size w w':=by
 go_enter Tryz.func145,Tryz.ntmps145
 go_wp2
 go_ret2
 exact⟨rfl,below_last (Below.refl _ _) _⟩
theorem pair_2(fc fp fz fs fo fd:Bool)(w:World):Calls Tryz.prog 145 #[.int .i64 2,.agg #[.bool fc,.bool fp,.bool fz,.bool fs,.bool fo,.bool fd]] w fun e w'=>e=.returned (.tuple #[.bool fz,.bool true])∧Below w.heap.size w w':=by
 go_enter Tryz.func145,Tryz.ntmps145
 go_wp2
 go_ret2
 exact⟨rfl,below_last (Below.refl _ _) _⟩
theorem pair_3(fc fp fz fs fo fd:Bool)(w:World):Calls Tryz.prog 145 #[.int .i64 3,.agg #[.bool fc,.bool fp,.bool fz,.bool fs,.bool fo,.bool fd]] w fun e w'=>e=.returned (.tuple #[.bool (fc || fz),.bool true])∧Below w.heap.size w w':=by
 cases fc
 all_goals
  go_enter Tryz.func145,Tryz.ntmps145
  go_wp2
  go_ret2
  exact⟨rfl,below_last (Below.refl _ _) _⟩
theorem pair_4(fc fp fz fs fo fd:Bool)(w:World):Calls Tryz.prog 145 #[.int .i64 4,.agg #[.bool fc,.bool fp,.bool fz,.bool fs,.bool fo,.bool fd]] w fun e w'=>e=.returned (.tuple #[.bool fs,.bool true])∧Below w.heap.size w w':=by
 go_enter Tryz.func145,Tryz.ntmps145
 go_wp2
 go_ret2
 exact⟨rfl,below_last (Below.refl _ _) _⟩
theorem pair_5(fc fp fz fs fo fd:Bool)(w:World):Calls Tryz.prog 145 #[.int .i64 5,.agg #[.bool fc,.bool fp,.bool fz,.bool fs,.bool fo,.bool fd]] w fun e w'=>e=.returned (.tuple #[.bool fp,.bool true])∧Below w.heap.size w w':=by
 go_enter Tryz.func145,Tryz.ntmps145
 go_wp2
 go_ret2
 exact⟨rfl,below_last (Below.refl _ _) _⟩
theorem pair_6(fc fp fz fs fo fd:Bool)(w:World):Calls Tryz.prog 145 #[.int .i64 6,.agg #[.bool fc,.bool fp,.bool fz,.bool fs,.bool fo,.bool fd]] w fun e w'=>e=.returned (.tuple #[.bool (!(fs==fo)),.bool true])∧Below w.heap.size w w':=by
 go_enter Tryz.func145,Tryz.ntmps145
 go_wp2
 go_ret2
 exact⟨rfl,below_last (Below.refl _ _) _⟩
theorem pair_7(fc fp fz fs fo fd:Bool)(w:World):Calls Tryz.prog 145 #[.int .i64 7,.agg #[.bool fc,.bool fp,.bool fz,.bool fs,.bool fo,.bool fd]] w fun e w'=>e=.returned (.tuple #[.bool (fz || !(fs==fo)),.bool true])∧Below w.heap.size w w':=by
 cases fz
 all_goals
  go_enter Tryz.func145,Tryz.ntmps145
  go_wp2
  go_ret2
  exact⟨rfl,below_last (Below.refl _ _) _⟩
theorem pair_out(p:Int)(fc fp fz fs fo fd:Bool)(w:World)(h0:(p==0)=false)(h1:(p==1)=false)(h2:(p==2)=false)(h3:(p==3)=false)(h4:(p==4)=false)(h5:(p==5)=false)(h6:(p==6)=false)(h7:(p==7)=false):Calls Tryz.prog 145 #[.int .i64 p,.agg #[.bool fc,.bool fp,.bool fz,.bool fs,.bool fo,.bool fd]] w fun e w'=>e=.returned (.tuple #[.bool false,.bool false])∧Below w.heap.size w w':=by
 go_enter Tryz.func145,Tryz.ntmps145
 go_wp2
 go_ret2
 exact⟨rfl,below_last (Below.refl _ _) _⟩
theorem pair_any(p:Int)(h0:0≤p)(h1:p≤7)(fc fp fz fs fo fd:Bool)(w:World):Calls Tryz.prog 145 #[.int .i64 p,.agg #[.bool fc,.bool fp,.bool fz,.bool fs,.bool fo,.bool fd]] w fun e w'=>e=.returned (.tuple #[.bool (condP p.toNat fc fp fz fs fo),.bool true])∧Below w.heap.size w w':=by
 obtain rfl|rfl|rfl|rfl|rfl|rfl|rfl|rfl:p=0∨p=1∨p=2∨p=3∨p=4∨p=5∨p=6∨p=7:=by omega
 all_goals first|exact pair_0 fc fp fz fs fo fd w|exact pair_1 fc fp fz fs fo fd w|exact pair_2 fc fp fz fs fo fd w|exact pair_3 fc fp fz fs fo fd w|exact pair_4 fc fp fz fs fo fd w|exact pair_5 fc fp fz fs fo fd w|exact pair_6 fc fp fz fs fo fd w|exact pair_7 fc fp fz fs fo fd w
theorem cholds_in(c:Int)(fc fp fz fs fo fd:Bool)(w:World)(c0:0≤c)(c1:c≤15):Calls Tryz.prog 129 #[.int .i64 c,.agg #[.bool fc,.bool fp,.bool fz,.bool fs,.bool fo,.bool fd]] w fun e w'=>e=.returned (.bool (condP (c/2).toNat fc fp fz fs fo != (c%2==1)))∧Below w.heap.size w w':=by
 have p0:0≤c/2:=by omega
 have p1:c/2≤7:=by omega
 have hP:=pair_any (c/2) p0 p1 fc fp fz fs fo fd
 generalize condP (c/2).toNat fc fp fz fs fo=B at *
 go_enter Tryz.func129,Tryz.ntmps129
 go_wp2_with fail
 refine(hP _).mono ?_
 rintro e w1 ⟨rfl,hb1⟩
 go_wp2_with fail
 go_ret
 have hB:(bits .and .i64 c 1 != 0)=(c%2==1):=by
  rcases sixteen c with h|h|rfl|rfl|rfl|rfl|rfl|rfl|rfl|rfl|rfl|rfl|rfl|rfl|rfl|rfl|rfl|rfl
  ·omega
  ·omega
  all_goals rfl
 refine⟨?_,((Below.refl _ _).alloc (Nat.le_refl _) _).trans (hb1.mono (by simp))⟩
 show Ending.returned (Value.bool (!(B==(bits .and .i64 c 1 != 0))))=_
 rw[hB];rfl
theorem pairs_out(p:Int)(h:p<0∨7<p)(fc fp fz fs fo fd:Bool)(w:World):Calls Tryz.prog 145 #[.int .i64 p,.agg #[.bool fc,.bool fp,.bool fz,.bool fs,.bool fo,.bool fd]] w fun e w'=>e=.returned (.tuple #[.bool false,.bool false])∧Below w.heap.size w w':=
 pair_out p fc fp fz fs fo fd w (by simp;omega) (by simp;omega) (by simp;omega) (by simp;omega) (by simp;omega) (by simp;omega) (by simp;omega) (by simp;omega)
theorem cholds_out(c:Int)(fc fp fz fs fo fd:Bool)(w:World)(h:c<0∨15<c)(c0:-9223372036854775808≤c)(c1:c≤9223372036854775807):Calls Tryz.prog 129 #[.int .i64 c,.agg #[.bool fc,.bool fp,.bool fz,.bool fs,.bool fo,.bool fd]] w fun e w'=>e=.returned (.bool false)∧Below w.heap.size w w':=by
 have hP:=pairs_out (c/2) (by omega) fc fp fz fs fo fd
 clear h
 go_enter Tryz.func129,Tryz.ntmps129
 go_wp2_with fail
 refine(hP _).mono ?_
 rintro e w1 ⟨rfl,hb1⟩
 go_wp2_with fail
 go_ret
 exact⟨rfl,((Below.refl _ _).alloc (Nat.le_refl _) _).trans (hb1.mono (by simp))⟩
theorem cholds_any(c:Int)(fc fp fz fs fo fd:Bool)(c0:-9223372036854775808≤c)(c1:c≤9223372036854775807)(w:World):Calls Tryz.prog 129 #[.int .i64 c,.agg #[.bool fc,.bool fp,.bool fz,.bool fs,.bool fo,.bool fd]] w fun e w'=>e=.returned (.bool (condH c fc fp fz fs fo))∧Below w.heap.size w w':=by
 by_cases h:0≤c∧c≤15
 ·rw[condH_in c fc fp fz fs fo h.1 h.2];exact cholds_in c fc fp fz fs fo fd w h.1 h.2
 ·rw[condH_out c fc fp fz fs fo (by omega)];exact cholds_out c fc fp fz fs fo fd w (by omega) c0 c1
end
section
open Go.ChangeShapes Go.WideShapes Go.ChangeAt Go.RowKit
attribute [local go_sem] isSome_setCell
set_option maxRecDepth 100000
set_option maxHeartbeats 1000000
theorem step_pos(fc fp fz fs fo fd:Bool)(v n i:Int)(hi0:0<i)(w:World):Calls Tryz.prog 68 #[.agg #[.bool fc,.bool fp,.bool fz,.bool fs,.bool fo,.bool fd],.int .u32 v,.int .i64 n,.int .i64 i] w fun e w'=>
  e=.returned (.tuple #[.int .u32 (addV v 1 n false),.agg #[.bool fc,.bool (par (addV v 1 n false)),.bool (zer (addV v 1 n false)),.bool (hi (addV v 1 n false) n),.bool (addO v 1 n false),.bool fd]])∧Below w.heap.size w w':=by
 go_enter Tryz.func68,Tryz.ntmps68
 go_wp2_with (first|(go_at_call 67;refine(sub_any _ _ _ _ _).mono ?_;rintro e w1 ⟨rfl,hb⟩;obtain⟨hc,hf⟩:=bcell hb;have hz:w.heap.size+1<w1.heap.size:=(by have:=hb.size;simp at this;omega);have hy:w.heap.size<w1.heap.size:=(by omega);have hy1:w.heap.size<w1.heap.size+1:=(by omega);have hy2:w.heap.size+1<w1.heap.size+1:=(by omega)) |
  (go_at_call 85;refine(add_any _ _ _ _ _).mono ?_;rintro e w2 ⟨rfl,hb2⟩;obtain⟨hc2,hf2⟩:=bcell hb2;have hz2:w1.heap.size<w2.heap.size:=(by have:=hb2.size;simp at this;omega);have q0:(w2.cell? ⟨w1.heap.size,0,none⟩).isSome=true:=(by rw[hc2 _ _ (by simp)];simp[go_sem]);have q1:(w2.cell? ⟨w1.heap.size,1,none⟩).isSome=true:=(by rw[hc2 _ _ (by simp)];simp[go_sem]);have q2:(w2.cell? ⟨w1.heap.size,2,none⟩).isSome=true:=(by rw[hc2 _ _ (by simp)];simp[go_sem]);have q3:(w2.cell? ⟨w1.heap.size,3,none⟩).isSome=true:=(by rw[hc2 _ _ (by simp)];simp[go_sem]);have q4:(w2.cell? ⟨w1.heap.size,4,none⟩).isSome=true:=(by rw[hc2 _ _ (by simp)];simp[go_sem]);have q5:(w2.cell? ⟨w1.heap.size,5,none⟩).isSome=true:=(by rw[hc2 _ _ (by simp)];simp[go_sem]);have hz3:w.heap.size<w2.heap.size:=(by omega);have hz4:w.heap.size+1<w2.heap.size:=(by omega)))
 go_region
 all_goals go_wp2
 go_region
 all_goals go_wp2
 all_goals
  have hB:Below w.heap.size w w1:=(((Below.refl _ _).alloc (Nat.le_refl _) _).alloc (by simp) _).trans (hb.mono (by simp;omega))
  have hB2:Below w.heap.size w w2:=(hB.alloc (by omega) _).trans (hb2.mono (by simp;omega))
  refine bodyPost_ret (v:=.tuple #[.int .u32 (addV v 1 n false),.agg #[.bool fc,.bool (par (addV v 1 n false)),.bool (zer (addV v 1 n false)),.bool (hi (addV v 1 n false) n),.bool (addO v 1 n false),.bool fd]]) (by simp[results,Tryz.results68,go_sem,hc,hz,hy2,hc2]) rfl ⟨rfl,?_⟩
  repeat' (first|(with_reducible exact hB2)|(with_reducible refine Below.drew ?_)|(with_reducible refine Below.setCell ?_ ?_ _)|(simp<;>omega))
theorem step_neg(fc fp fz fs fo fd:Bool)(v n i:Int)(hi0:i≤0)(w:World):Calls Tryz.prog 68 #[.agg #[.bool fc,.bool fp,.bool fz,.bool fs,.bool fo,.bool fd],.int .u32 v,.int .i64 n,.int .i64 i] w fun e w'=>
  e=.returned (.tuple #[.int .u32 (subV v 1 n false),.agg #[.bool fc,.bool (par (subV v 1 n false)),.bool (zer (subV v 1 n false)),.bool (hi (subV v 1 n false) n),.bool (subO v 1 n false),.bool fd]])∧Below w.heap.size w w':=by
 go_enter Tryz.func68,Tryz.ntmps68
 go_wp2_with (go_at_call 67;refine(sub_any _ _ _ _ _).mono ?_;rintro e w1 ⟨rfl,hb⟩;obtain⟨hc,hf⟩:=bcell hb;have hz:w.heap.size+1<w1.heap.size:=(by have:=hb.size;simp at this;omega);have hy:w.heap.size<w1.heap.size:=(by omega);have hy1:w.heap.size<w1.heap.size+1:=(by omega);have hy2:w.heap.size+1<w1.heap.size+1:=(by omega))
 go_region
 all_goals go_wp2
 go_region
 all_goals go_wp2
 all_goals
  have hB:Below w.heap.size w w1:=(((Below.refl _ _).alloc (Nat.le_refl _) _).alloc (by simp) _).trans (hb.mono (by simp;omega))
  refine bodyPost_ret (v:=.tuple #[.int .u32 (subV v 1 n false),.agg #[.bool fc,.bool (par (subV v 1 n false)),.bool (zer (subV v 1 n false)),.bool (hi (subV v 1 n false) n),.bool (subO v 1 n false),.bool fd]]) (by simp[results,Tryz.results68,go_sem,hc,hz]) rfl ⟨rfl,?_⟩
  repeat' (first|(with_reducible exact hB)|(with_reducible refine Below.drew ?_)|(with_reducible refine Below.setCell ?_ ?_ _)|(with_reducible refine Below.alloc ?_ ?_ _)|(simp<;>omega))
theorem step_any(fc fp fz fs fo fd:Bool)(v n i:Int)(w:World):Calls Tryz.prog 68 #[.agg #[.bool fc,.bool fp,.bool fz,.bool fs,.bool fo,.bool fd],.int .u32 v,.int .i64 n,.int .i64 i] w fun e w'=>
  e=.returned (.tuple #[.int .u32 (stepV v n i),.agg #[.bool fc,.bool (par (stepV v n i)),.bool (zer (stepV v n i)),.bool (hi (stepV v n i) n),.bool (stepO v n i),.bool fd]])∧Below w.heap.size w w':=by
 unfold stepV stepO
 by_cases h:0<i
 ·simp only[if_pos h]
  exact step_pos fc fp fz fs fo fd v n i h w
 ·simp only[if_neg h]
  exact step_neg fc fp fz fs fo fd v n i (by omega) w
end
end Go.Proofs.YtmdncgfheeijaaaGreat
