import Derived.Test.YtmdncgfheeijaaaGreatKUG2
namespace Go.Proofs.YtmdncgfheeijaaaGreat
open Go
section
variable {P:Program} {ops:Array Oper} {Q:Exit→Act→World→Prop} {md:Region.Mode} {a0:Act} {γ:Type} {Inv:World→γ→Prop} {p:Nat→(Nat→Value)→World→γ→Prop} {G:World→γ→World→γ→Prop} {look:Nat→List Nat}
set_option maxRecDepth 100000
theorem yielded_got{j:Nat}{a:Act}{b:Bool}(h:got ops a j=.bool b):yielded ops a.tmps j=some b:=by
 unfold got at h
 unfold yielded
 cases hd:(ops[j]?).bind (·.dst)with
 |none=>rw[hd]at h;cases h
 |some t=>
  rw[hd]at h
  simp only[Option.bind_some]at h ⊢
  rw[Array.getD_eq_getD_getElem?]at h
  cases ht:a.tmps[t]? with
  |none=>rw[ht]at h;cases h
  |some v=>
   rw[ht,Option.getD_some]at h
   subst h
   rfl
theorem wpOp_met{i:Nat}{o:Oper}(ho:ops[i]?=some o)(j:Nat)(v:Bool)(hg:o.guard=some (j,v)){K:Act→World→Prop}{a:Act}{w:World}(hj:got ops a j=.bool v)(h:o.wp P a w K Q):wpOp P ops Q i K a w:=by
 unfold wpOp
 simp only[ho]
 rw[if_pos (by simp[Region.wanted,hg,yielded_got hj])]
 exact .inl h
theorem wp_region_midG(hm:P.follows .mixedOrders=true){id:Nat}{a:Act}{w:World}
  (hd:∀(i j:Nat) (oi oj:Oper) (t:Tmp),ops[i]?=some oi→ops[j]?=some oj→oi.dst=some t→oj.dst=some t→i=j)
  (hsz:∀(i:Nat) (o:Oper) (t:Tmp),ops[i]?=some o→o.dst=some t→t<a.tmps.size)
  (hlt:∀(i:Nat) (o:Oper),ops[i]?=some o→∀e∈o.after,Region.binds .any e=true→e.on<i)
  (look:Nat→List Nat) (hlook:∀(i:Nat) (o:Oper) (k:Nat),ops[i]?=some o→k∈look i→(k=i∧o.dst≠none)∨∃e∈o.after,Region.binds .any e=true∧e.on=k)
  (g0:γ) (Inv:World→γ→Prop) (G:World→γ→World→γ→Prop) (p:Nat→(Nat→Value)→World→γ→Prop)
  (hp:∀i f f' w g w' g',p i f w g→(∀k∈look i,f k=f' k)→G w g w' g'→p i f' w' g') (hG:∀w g,G w g w g) (h0:Inv { w with drawn:=w.drawn+1 } g0)
  (step:∀(i:Nat) (o:Oper) (b:Act) (w:World) (g:γ),ops[i]?=some o→Inv w g→b.tmps.size=a.tmps.size→(∀t,(∀(i:Nat) (o:Oper),ops[i]?=some o→o.dst≠some t)→b.tmps.getD t undef=a.tmps.getD t undef) →
   (∀e∈o.after,Region.binds .any e=true→p e.on (got ops b) w g) →
   wpOp P ops Q i (fun b' w'=>∃v g',b'=b.put o.dst v∧Inv w' g'∧G w g w' g'∧p i (fun k=>if k=i then v else got ops b k) w' g') b w)
  (fin:∀b w g,b.tmps.size=a.tmps.size→b.defers=a.defers→(∀t,(∀(i:Nat) (o:Oper),ops[i]?=some o→o.dst≠some t)→b.tmps.getD t undef=a.tmps.getD t undef)→Inv w g→(∀i,i<ops.size→p i (got ops b) w g)→Q .normal b w):
  (Code.region id ops true).wp P Q a w:=by
 refine wp_region_any hm (wpAny_midG (look:=look) hd hsz hlt hlook hp hG (fun i o b u g ho hi hs _ hb hd=>step i o b u g ho hi hs hb hd) fin ops.size _ a _ g0 ?_ ⟨by simp,rfl,rfl,fun _ _=>rfl,h0,?_,?_⟩)
 ·exact Nat.le_trans List.countP_le_length (by simp)
 ·intro j o _ hj
  have:(Array.replicate ops.size false).getD j false=false:=by simp[Array.getD_eq_getD_getElem?,Array.getElem?_replicate];split<;>rfl
  rw[this]at hj;cases hj
 ·intro j hj
  have:(Array.replicate ops.size false).getD j false=false:=by simp[Array.getD_eq_getD_getElem?,Array.getElem?_replicate];split<;>rfl
  rw[this]at hj;cases hj
def fitG(ops:Array Oper)(look:Nat→List Nat)(n:Nat):Bool:=
 (List.range ops.size).all fun i=>
  match ops[i]? with
  |none=>true
  |some o=>((match o.dst with
    |some t=>decide (t<n)&&(List.range ops.size).all (fun j=>j==i || ((ops[j]?).bind (·.dst)) != some t)
    |none=>true)&&(o.after.all (fun e=>!Region.binds .any e || decide (e.on<i))&&(look i).all (fun k=>(k==i&&o.dst.isSome) || o.after.any (fun e=>Region.binds .any e&&e.on==k))))
theorem fitG_at{look:Nat→List Nat}{n:Nat}(h:fitG ops look n=true){i:Nat}{o:Oper}(ho:ops[i]?=some o):
  (∀t,o.dst=some t→t<n∧∀(j:Nat) (oj:Oper),ops[j]?=some oj→oj.dst=some t→j=i)∧(∀e∈o.after,Region.binds .any e=true→e.on<i)∧(∀k∈look i,(k=i∧o.dst≠none)∨∃e∈o.after,Region.binds .any e=true∧e.on=k):=by
 have hi:i<ops.size:=(Array.getElem?_eq_some_iff.1 ho).1
 have h1:=List.all_eq_true.1 h i (List.mem_range.2 hi)
 rw[ho]at h1
 simp only[Bool.and_eq_true]at h1
 obtain⟨g2,g3,g4⟩:=h1
 refine⟨?_,?_,?_⟩
 ·intro t ht
  rw[ht]at g2
  simp only[Bool.and_eq_true,decide_eq_true_eq]at g2
  refine⟨g2.1,fun j oj hj hd=>?_⟩
  have h2:=List.all_eq_true.1 g2.2 j (List.mem_range.2 (Array.getElem?_eq_some_iff.1 hj).1)
  rw[hj]at h2
  simp[hd]at h2
  exact h2
 ·intro e he hb
  have:=Array.all_eq_true'.1 g3 e he
  rw[hb]at this
  simpa using this
 ·intro k hk
  have h2:=List.all_eq_true.1 g4 k hk
  simp only[Bool.or_eq_true,Bool.and_eq_true,beq_iff_eq]at h2
  rcases h2 with⟨h3,h4⟩|h3
  ·exact .inl ⟨h3,fun e=>by rw[e]at h4;cases h4⟩
  ·rw[Array.any_eq_true']at h3
   obtain⟨e,he,h4⟩:=h3
   simp only[Bool.and_eq_true,beq_iff_eq]at h4
   exact .inr ⟨e,he,h4⟩
theorem wp_region_valsG(hm:P.follows .mixedOrders=true){id:Nat}{a:Act}{w:World}(nod:Nat→Bool)(hfit:fitG ops (eyes nod fun i=>i) a.tmps.size=true)
  (Inv:World→Prop) (G:World→World→Prop) (V:Nat→Value→World→Prop)
  (hp:∀i v u u',V i v u→G u u'→V i v u') (hG:∀w,G w w) (h0:Inv { w with drawn:=w.drawn+1 })
  (step:∀(i:Nat) (o:Oper) (b:Act) (u:World),ops[i]?=some o→Inv u→b.tmps.size=a.tmps.size→(∀t,noDst ops t=true→b.tmps.getD t undef=a.tmps.getD t undef) →
   (∀j,need o j=true→V j (left nod (got ops b) j) u) →
   wpOp P ops Q i (fun b' u'=>∃v,b'=b.put o.dst v∧Inv u'∧G u u'∧V i (if nod i then undef else v) u') b u)
  (fin:∀(f:Nat→Value) u,Inv u→(∀i,i<ops.size→V i (left nod f i) u)→Q .normal (laid ops f a ops.size) u):
  (Code.region id ops true).wp P Q a w:=by
 have hsz:∀(i:Nat) (o:Oper) (t:Tmp),ops[i]?=some o→o.dst=some t→t<a.tmps.size:=fun _ _ t ho hd=>((fitG_at hfit ho).1 t hd).1
 refine wp_region_midG (γ:=Unit) hm (fun _ _ _ _ t hi hj hd he=>((fitG_at hfit hj).1 t he).2 _ _ hi hd) hsz (fun _ _ ho=>(fitG_at hfit ho).2.1) (eyes nod fun i=>i) (fun _ _ k ho hk=>(fitG_at hfit ho).2.2 k hk) () (fun u _=>Inv u) (fun u _ u' _=>G u u') (fun i f u _=>V i (left nod f i) u) ?_ (fun w _=>hG w) h0 ?_ ?_
 ·intro i f f' u _ u' _ h hl hg
  have e:left nod f i=left nod f' i:=by
   unfold left
   by_cases hn:nod i=true
   ·rw[if_pos hn,if_pos hn]
   ·rw[if_neg hn,if_neg hn]
    exact hl i (by unfold eyes;rw[if_neg hn];simp)
  rw[←e]
  exact hp i _ u u' h hg
 ·intro i o b u _ ho hi hs hb hd
  refine wpOp_mono ?_ (step i o b u ho hi hs (fun t ht=>hb t (noDst_at ht)) (fun j hj=>by
   unfold need at hj
   rw[Array.any_eq_true']at hj
   obtain⟨e,he,h4⟩:=hj
   simp only[Bool.and_eq_true,beq_iff_eq]at h4
   have:=hd e he h4.1
   rwa[h4.2]at this))
  rintro b' u' ⟨v,h1,h2,h3,h4⟩
  refine⟨v,(),h1,h2,h3,?_⟩
  have e:left nod (fun k=>if k=i then v else got ops b k) i=if nod i then undef else v:=by
   unfold left
   simp
  rw[e]
  exact h4
 ·intro b u _ h1 h2 h3 h4 h5
  have:=fin (got ops b) u h4 h5
  rwa[←laid_all hsz h1 h2 h3]at this
end
end Go.Proofs.YtmdncgfheeijaaaGreat
