import Derived.Test.YtmdncgfheeijaaaGreatKUG26
namespace Go.Proofs.YtmdncgfheeijaaaGreat
section
open Go Go.RowKit
section
variable {γ:Type} {P:Program} {ops:Array Oper} {nod:Nat→Bool} {tab:List (Option Value)} {Q:Exit→Act→World→Prop} {a b:Act} {u:World}
set_option maxRecDepth 100000
def KeptB(Fr:World→γ→Nat→Prop)(T:TypeId)(cs:List Value)(E:World→γ→Prop)(u:World)(F:γ)(u':World)(F':γ):Prop:=
 (E u F→E u' F')∧∀B,Fr u F B→Fr u' F' B∧(∀C0,u.heap[B]?=some (.cells C0 T (0,0))→C0.size=cs.length→∃C1,u'.heap[B]?=some (.cells C1 T (0,0))∧C1.size=cs.length)∧(u.heap[B]?=some (.cells cs.toArray T (0,0))→u'.heap[B]?=some (.cells cs.toArray T (0,0)))
theorem KeptB.refl(Fr:World→γ→Nat→Prop)(T:TypeId)(cs:List Value)(E:World→γ→Prop)(u:World)(F:γ):KeptB Fr T cs E u F u F:=⟨id,fun _ h=>⟨h,fun C0 h1 h2=>⟨C0,h1,h2⟩,id⟩⟩
theorem KeptB.of{Fr:World→γ→Nat→Prop}{T:TypeId}{cs:List Value}{E:World→γ→Prop}{u u':World}{F F':γ}(hE:E u F→E u' F')(h:∀B,Fr u F B→Fr u' F' B∧u'.heap[B]?=u.heap[B]?):KeptB Fr T cs E u F u' F':=
 ⟨hE,fun B hB=>⟨(h B hB).1,fun C0 h1 h2=>⟨C0,(h B hB).2.trans h1,h2⟩,fun h1=>(h B hB).2.trans h1⟩⟩
def MadeP(nod:Nat→Bool)(tab:List (Option Value))(Fr:World→γ→Nat→Prop)(T:TypeId)(cs:List Value)(E:World→γ→Prop)(ka ks kc:Nat)(i:Nat)(f:Nat→Value)(u:World)(F:γ):Prop:=
 if i=ka then ∃B C0,left nod f ka=.pointer (some ⟨B,0,none⟩)∧Fr u F B∧u.heap[B]?=some (.cells C0 T (0,0))∧C0.size=cs.length
 else if i=ks then ∃B,left nod f ka=.pointer (some ⟨B,0,none⟩)∧Fr u F B∧u.heap[B]?=some (.cells cs.toArray T (0,0))
 else tabAt tab i=some (left nod f i)∧(i=kc→E u F)
theorem setL_get(C:Array Value):∀(cs:List Value) (o:Nat),o+cs.length≤C.size→∀k,(setL C o cs)[k]?=if o≤k∧k<o+cs.length then cs[k-o]? else C[k]?
 |[],o,_,k=>by
  show C[k]?=_
  rw[if_neg (by rintro⟨h1,h2⟩;rw[List.length_nil]at h2;omega)]
 |v :: cs,o,h,k=>by
  simp only[List.length_cons]at h
  show(setL (C.setIfInBounds o v) (o+1) cs)[k]?=_
  rw[setL_get (C.setIfInBounds o v) cs (o+1) (by simp;omega) k,Array.getElem?_setIfInBounds]
  by_cases h1:k=o
  ·subst h1
   rw[if_neg (by omega),if_pos rfl,if_pos (by omega),if_pos (by simp)]
   simp
  ·by_cases h2:o+1≤k∧k<o+1+cs.length
   ·rw[if_pos h2,if_pos (by simp;omega)]
    obtain⟨m,rfl⟩:∃m,k=o+1+m:=⟨k-(o+1),by omega⟩
    rw[show o+1+m-o=m+1 by omega,show o+1+m-(o+1)=m by omega]
    rfl
   ·rw[if_neg h2,if_neg (fun e=>h1 e.symm),if_neg (by simp;omega)]
theorem setL_full{C:Array Value}{cs:List Value}(h:C.size=cs.length):setL C 0 cs=cs.toArray:=by
 apply Array.ext_getElem?
 intro k
 rw[setL_get C cs 0 (by omega) k]
 by_cases hk:k<cs.length
 ·rw[if_pos (by omega)]
  simp
 ·rw[if_neg (by omega),Array.getElem?_eq_none (by omega),Array.getElem?_eq_none (by simp;omega)]
theorem wp_region_made(hm:P.follows .mixedOrders=true){id:Nat}{w:World}(nod:Nat→Bool)(ka ks kc:Nat)(hks:nod ks=true)(hka:nod ka=false)(hne:ks≠ka)(hkc:kc≠ka∧kc≠ks)
  (hfit:fitDraw ops (fun i=>if i=ks then[ka]else if nod i then[]else[i]) a.tmps.size=true)
  (C:World→γ→Prop) (F0:γ) (Fr:World→γ→Nat→Prop) (E:World→γ→Prop) (T:TypeId) (cs:List Value) (hi:(P.info? T).map (·.size)=some cs.length) (h1:cs.toArray.all (·.oneCell')=true)
  (tab:List (Option Value)) (D:List (Nat×Nat×Nat)) (B:List (Nat×Nat)) (R:List Nat) (hall:(List.range ops.size).all (fun i=>D.any (fun p=>p.1==i) || B.any (fun p=>p.1==i) || (ka :: ks :: R).contains i)=true)
  (hR:R.all (fun i=>i != ka&&i != ks)=true) (hDk:D.all (fun p=>p.1 != ka&&p.1 != ks&&p.2.1 != ka&&p.2.1 != ks&&p.1 != kc)=true) (hBk:B.all (fun p=>p.1 != ka&&p.1 != ks&&p.1 != kc)=true)
  (hD:AllD P ops nod (fun u=>∃F,C u F) tab D) (hB:AllB P ops nod (fun u=>∃F,C u F) tab a B) (h0:C { w with drawn:=w.drawn+1 } F0)
  (oa os:Oper) (hoa:ops[ka]?=some oa) (hos:ops[ks]?=some os) (Z:Array Value) (hZ:Z.size=cs.length) (hra:∀(b:Act) (u:World),(execOp b.eval oa).run P u=.ok (.value (.pointer (some ⟨u.heap.size,0,none⟩))) (u.alloc (.cells Z T)))
  (ta tv jv:Nat) (hst:os.op=.store T (.tmp ta) (.tmp tv)) (hta:(ops[ka]?).bind (·.dst)=some ta) (htv:(ops[jv]?).bind (·.dst)=some tv) (hna:need os ka=true) (hnv:need os jv=true) (hjv:jv≠ka∧jv≠ks∧nod jv=false) (htab:tabAt tab jv=none∨tabAt tab jv=some (.agg cs.toArray)) (hosd:os.dst=none)
  (halloc:∀u F,C u F→C (u.alloc (.cells Z T)) F∧Fr (u.alloc (.cells Z T)) F u.heap.size∧KeptB Fr T cs E u F (u.alloc (.cells Z T)) F)
  (hstore:∀u F B,C u F→Fr u F B→C (u.setCells B 0 cs) F∧(E u F→E (u.setCells B 0 cs) F)∧∀B',Fr u F B'→Fr (u.setCells B 0 cs) F B')
  (step:∀(i:Nat) (o:Oper) (b:Act) (u:World) (F:γ),i∈R→ops[i]?=some o→C u F→b.defers=a.defers→(∀t,noDst ops t=true→b.tmps.getD t undef=a.tmps.getD t undef) →
   (∀j,j≠ka→j≠ks→need o j=true→tabAt tab j=some (left nod (got ops b) j)) →
   o.wp P b u (fun b' u'=>∃v F',b'=b.put o.dst v∧C u' F'∧KeptB Fr T cs E u F u' F'∧tabAt tab i=some (if nod i then undef else v)∧(i=kc→E u' F')) Q)
  (fin:∀(f:Nat→Value) u F,C u F→E u F→(∀i,i<ops.size→i≠ka→i≠ks→tabAt tab i=some (left nod f i))→(∃B,f ka=.pointer (some ⟨B,0,none⟩)∧Fr u F B∧u.heap[B]?=some (.cells cs.toArray T (0,0)))→Q .normal (laid ops f a ops.size) u) (hkcs:kc<ops.size):
  (Code.region id ops true).wp P Q a w:=by
 have hsz:∀(i:Nat) (o:Oper) (t:Tmp),ops[i]?=some o→o.dst=some t→t<a.tmps.size:=fun _ _ t ho hd=>((fitDraw_at hfit ho).2.1 t hd).1
 have hkas:ka<ops.size:=(Array.getElem?_eq_some_iff.1 hoa).1
 have hkss:ks<ops.size:=(Array.getElem?_eq_some_iff.1 hos).1
 refine wp_region_any hm (wpAny_midG (a0:=a) (Inv:=C) (G:=KeptB Fr T cs E) (p:=MadeP nod tab Fr T cs E ka ks kc) (look:=fun i=>if i=ks then[ka]else if nod i then[]else[i]) (fun _ _ _ _ t hi hj hd he=>((fitDraw_at hfit hj).2.1 t he).2 _ _ hi hd) hsz (fun _ _ ho=>(fitDraw_at hfit ho).2.2.1) (fun _ _ k ho hk=>(fitDraw_at hfit ho).2.2.2 k hk) ?_ (KeptB.refl Fr T cs E) ?_ ?_ ops.size _ a _ F0 ?_ ⟨by simp,rfl,rfl,fun _ _=>rfl,h0,?_,?_⟩)
 ·intro i f f' u F u' F' h hl hg
  unfold MadeP at h ⊢
  by_cases e1:i=ka
  ·subst e1
   rw[if_pos rfl]at h ⊢
   obtain⟨B,C0,q1,q2,q3,q4⟩:=h
   obtain⟨C1,q5,q6⟩:=(hg.2 B q2).2.1 C0 q3 q4
   have ef:f i=f' i:=hl i (by simp[hne.symm,hka])
   exact⟨B,C1,by unfold left at q1 ⊢;rw[←ef];exact q1,(hg.2 B q2).1,q5,q6⟩
  ·rw[if_neg e1]at h ⊢
   by_cases e2:i=ks
   ·rw[if_pos e2]at h ⊢
    obtain⟨B,q1,q2,q3⟩:=h
    have ef:f ka=f' ka:=hl ka (by simp[e2])
    exact⟨B,by unfold left at q1 ⊢;rw[←ef];exact q1,(hg.2 B q2).1,(hg.2 B q2).2.2 q3⟩
   ·rw[if_neg e2]at h ⊢
    refine⟨?_,fun e=>hg.1 (h.2 e)⟩
    have e:left nod f i=left nod f' i:=by
     unfold left
     by_cases hn:nod i=true
     ·rw[if_pos hn,if_pos hn]
     ·rw[if_neg hn,if_neg hn]
      exact hl i (by simp[e2,hn])
    rw[←e]
    exact h.1
 ·intro i o b u F ho hC _ hdf hb hd
  refine wpOp_free ho (fitDraw_at hfit ho).1 ?_
  have hd':∀j,j≠ka→j≠ks→need o j=true→tabAt tab j=some (left nod (got ops b) j):=fun j j1 j2 hj=>by
   obtain⟨e,he,h4,hon⟩:=need_at hj
   have:=hd e he h4
   unfold MadeP at this
   rw[hon,if_neg j1,if_neg j2]at this
   exact this.1
  have hb':∀t,noDst ops t=true→b.tmps.getD t undef=a.tmps.getD t undef:=fun t ht=>hb t (noDst_at ht)
  have tell:∀{v:Value} {u':World} {F':γ},i≠ka→i≠ks→tabAt tab i=some (if nod i then undef else v)→(i=kc→E u' F')→MadeP nod tab Fr T cs E ka ks kc i (fun k=>if k=i then v else got ops b k) u' F':=fun{v u' F'} e1 e2 ht hE=>by
   unfold MadeP
   rw[if_neg e1,if_neg e2]
   refine⟨?_,hE⟩
   rw[ht]
   unfold left
   simp
  have same:∀{v:Value},i≠ka→i≠ks→i≠kc→nod i=false→tabAt tab i=some v→(execOp b.eval o).run P u=.ok (.value v) u→o.wp P b u (fun b' u'=>∃v F',b'=b.put o.dst v∧C u' F'∧KeptB Fr T cs E u F u' F'∧MadeP nod tab Fr T cs E ka ks kc i (fun k=>if k=i then v else got ops b k) u' F') Q:=fun{v} e1 e2 e3 hn ht hr=>
   wp_val hr ⟨v,F,rfl,hC,KeptB.refl _ _ _ _ _ _,tell e1 e2 (by rw[hn];exact ht) (fun e=>absurd e e3)⟩
  rcases auto_or hall (Array.getElem?_eq_some_iff.1 ho).1 with⟨p,hp,rfl⟩|⟨p,hp,rfl⟩|hR2
  ·have hk:=List.all_eq_true.1 hDk p hp
   simp only[Bool.and_eq_true,bne_iff_ne,ne_eq]at hk
   obtain⟨v,g4,hv,hr⟩:=auto_d (all_d hD p hp) ho ⟨F,hC⟩ (hd' _ hk.1.1.2 hk.1.2)
   exact same hk.1.1.1.1 hk.1.1.1.2 hk.2 g4 hv hr
  ·have hk:=List.all_eq_true.1 hBk p hp
   simp only[Bool.and_eq_true,bne_iff_ne,ne_eq]at hk
   obtain⟨v,g4,hv,hr⟩:=auto_b (all_b hB p hp) ho ⟨F,hC⟩ hb'
   exact same hk.1.1 hk.1.2 hk.2 g4 hv hr
  ·rcases List.mem_cons.1 hR2 with rfl|hR2
   ·rw[hoa]at ho
    cases ho
    obtain⟨q1,q2,q3⟩:=halloc u F hC
    refine wp_val (hra b u) ⟨_,F,rfl,q1,q3,?_⟩
    unfold MadeP
    rw[if_pos rfl]
    exact⟨u.heap.size,Z,by unfold left;rw[hka];simp,q2,by show(u.heap.push _)[u.heap.size]?=_;simp,hZ⟩
   rcases List.mem_cons.1 hR2 with rfl|hR2
   ·rw[hos]at ho
    cases ho
    obtain⟨e,he,h4,hon⟩:=need_at hna
    have hA:=hd e he h4
    unfold MadeP at hA
    rw[hon,if_pos rfl]at hA
    obtain⟨B,C0,q1,q2,q3,q4⟩:=hA
    have hx:b.eval (.tmp ta)=.pointer (some ⟨B,0,none⟩):=by
     rw[←q1]
     unfold left
     rw[hka,if_neg (by decide),got_at hta]
     rfl
    have hy:b.eval (.tmp tv)=.agg cs.toArray:=by
     have:=hd' jv hjv.1 hjv.2.1 hnv
     rcases htab with ht|ht
     ·rw[ht]at this;cases this
     ·rw[ht]at this
      have:=Option.some.inj this
      unfold left at this
      rw[hjv.2.2,if_neg (by decide),got_at htv]at this
      exact this.symm
    have hc:=block_setCells (T:=T) cs 0 u C0 q3
    rw[setL_full q4]at hc
    obtain⟨s1,s2,s3⟩:=hstore u F B hC q2
    refine wp_store_mid T (.tmp ta) (.tmp tv) hst B 0 cs.toArray hx hy (there_block q3 0 _ (by simp;omega)) (by simpa using hi) h1 ?_
    rw[show cs.toArray.toList=cs from rfl]
    refine⟨undef,F,by rw[hosd],s1,⟨s2,fun B' hB'=>⟨s3 B' hB',?_,?_⟩⟩,?_⟩
    ·intro C2 z1 z2
     by_cases e:B'=B
     ·subst e;exact⟨_,hc,by simp⟩
     ·exact⟨C2,(other_setCells e cs 0 u).trans z1,z2⟩
    ·intro z1
     by_cases e:B'=B
     ·subst e;exact hc
     ·exact(other_setCells e cs 0 u).trans z1
    ·unfold MadeP
     rw[if_neg hne,if_pos rfl]
     exact⟨B,by unfold left at q1 ⊢;rw[hka]at q1 ⊢;simpa[hne.symm]using q1,s3 B q2,hc⟩
   ·have hk:=List.all_eq_true.1 hR i hR2
    simp only[Bool.and_eq_true,bne_iff_ne,ne_eq]at hk
    refine Oper.wp_mono ?_ (step i o b u F hR2 ho hC hdf hb' hd')
    rintro b' u' ⟨v,F',r1,r2,r3,r4,r5⟩
    exact⟨v,F',r1,r2,r3,tell hk.1 hk.2 r4 r5⟩
 ·intro b u F g1 g2 g3 g4 g5
  have hE:E u F:=by
   have:=g5 kc hkcs
   unfold MadeP at this
   rw[if_neg hkc.1,if_neg hkc.2]at this
   exact this.2 rfl
  have hS:=g5 ks hkss
  unfold MadeP at hS
  rw[if_neg hne,if_pos rfl]at hS
  have:=fin (got ops b) u F g4 hE (fun i hi e1 e2=>by
   have:=g5 i hi
   unfold MadeP at this
   rw[if_neg e1,if_neg e2]at this
   exact this.1) (by
   obtain⟨B,q1,q2,q3⟩:=hS
   exact⟨B,by unfold left at q1;rw[hka,if_neg (by decide)]at q1;exact q1,q2,q3⟩)
  rwa[←laid_all hsz g1 g2 g3]at this
 ·exact Nat.le_trans List.countP_le_length (by simp)
 ·intro j o _ hj
  have:(Array.replicate ops.size false).getD j false=false:=by simp[Array.getD_eq_getD_getElem?,Array.getElem?_replicate];split<;>rfl
  rw[this]at hj;cases hj
 ·intro j hj
  have:(Array.replicate ops.size false).getD j false=false:=by simp[Array.getD_eq_getD_getElem?,Array.getElem?_replicate];split<;>rfl
  rw[this]at hj;cases hj
end
end
section
open Go.ChangeShapes Go.WideShapes Go.ChangeAt Go.RowKit
set_option maxRecDepth 100000
def endO(E:Int):Ending:=if E=0 then .returned (.tuple #[])else thrown E
section
variable {W:World} {F1 F F':Nat→Prop} {D b:Nat} {g g':Int→Int} {cc dd:Sg} {t:Sta} {I:Ins} {u:World} {B:Nat} {o:Opd} {n v:Int}
def SC(W:World)(F1:Nat→Prop)(D b:Nat)(g g':Int→Int)(cc dd:Sg)(t:Sta)(I:Ins)(u:World)(F:Nat→Prop):Prop:=DF W F1 D b g cc dd t I u F∨DF W F1 D b g' cc dd t I u F
def SF(W u:World)(F:Nat→Prop)(B:Nat):Prop:=W.heap.size≤B∧B<u.heap.size∧¬F B
theorem sc_dm(h:∃F,SC W F1 D b g g' cc dd t I u F):∃g0,DM W F1 D b g0 cc dd t I u:=h.elim fun F h=>h.elim (fun h=>⟨g,F,h⟩) (fun h=>⟨g',F,h⟩)
theorem sc_box(h:∃F,SC W F1 D b g g' cc dd t I u F)(hB:W.heap[B]?=some (.cells (opL' o).toArray 32 (0,0)))(hF:¬F1 B)(hD:B≠D):u.rangeAt B 0 (opL' o):=by
 obtain⟨F,h|h⟩:=h
 ·exact range_in13 ((h.but.block B (Array.getElem?_eq_some_iff.1 hB).1 (fun e=>e.elim hF hD)).trans hB) 0 _ rfl
 ·exact range_in13 ((h.but.block B (Array.getElem?_eq_some_iff.1 hB).1 (fun e=>e.elim hF hD)).trans hB) 0 _ rfl
theorem sc_new(hC:SC W F1 D b g g' cc dd t I u F)(T:TypeId)(cs:List Value)(o:Obj):SC W F1 D b g g' cc dd t I (u.alloc o) F∧SF W (u.alloc o) F u.heap.size∧KeptB (SF W) T cs (DF W F1 D b g' cc dd t I) u F (u.alloc o) F:=by
 have hb:=below_last (Below.refl u.heap.size u) o
 have hs:(u.alloc o).heap.size=u.heap.size+1:=by simp
 refine⟨hC.imp (fun h=>h.below hb) (fun h=>h.below hb),⟨hC.elim (fun h=>h.but.size) (fun h=>h.but.size),by omega,hC.elim (fun h=>h.fresh (Nat.le_refl _)) (fun h=>h.fresh (Nat.le_refl _))⟩,KeptB.of (fun h=>h.below hb) fun B hB=>⟨⟨hB.1,by have:=hB.2.1;omega,hB.2.2⟩,hb.block B hB.2.1⟩⟩
theorem sc_put(hC:SC W F1 D b g g' cc dd t I u F)(hB:SF W u F B)(cs:List Value):SC W F1 D b g g' cc dd t I (u.setCells B 0 cs) F∧(DF W F1 D b g' cc dd t I u F→DF W F1 D b g' cc dd t I (u.setCells B 0 cs) F)∧∀B',SF W u F B'→SF W (u.setCells B 0 cs) F B':=by
 have hb:But (·=B) u (u.setCells B 0 cs):=(But.refl (·=B) u).cells (fun _=>rfl) _ _
 exact⟨hC.imp (fun h=>h.other hb hB.2.2 hB.1) (fun h=>h.other hb hB.2.2 hB.1),fun h=>h.other hb hB.2.2 hB.1,fun B' h=>⟨h.1,by rw[setCells_size];exact h.2.1,h.2.2⟩⟩
theorem sc_call(ht:StaOk t)(d0:0≤o.disp)(d1:o.disp<4294967296)(n v:Int)(v0:0≤v)(v1:v<4294967296)(T:TypeId)(cs:List Value)(u:World)(F:Nat→Prop)(hC:SC W F1 D b g (astG g dd t o n v) cc dd t I u F):
  Calls Tryz.prog 121 #[.pointer (some ⟨b,0,none⟩),.agg (staL t).toArray,.agg (opL' o).toArray,.int .i64 n,.int .u64 v] u fun e u'=>e=.returned (.tuple #[.agg (staL (astS t o v)).toArray,.int .i64 (astE dd t o n)])∧∃F',DF W F1 D b (astG g dd t o n v) cc dd t I u' F'∧KeptB (SF W) T cs (DF W F1 D b (astG g dd t o n v) cc dd t I) u F u' F':=by
 have hgo:∀g0,astG g0 dd t o n v=astG g dd t o n v→DF W F1 D b g0 cc dd t I u F→Calls Tryz.prog 121 #[.pointer (some ⟨b,0,none⟩),.agg (staL t).toArray,.agg (opL' o).toArray,.int .i64 n,.int .u64 v] u fun e u'=>e=.returned (.tuple #[.agg (staL (astS t o v)).toArray,.int .i64 (astE dd t o n)])∧∃F',DF W F1 D b (astG g dd t o n v) cc dd t I u' F'∧KeptB (SF W) T cs (DF W F1 D b (astG g dd t o n v) cc dd t I) u F u' F':=fun g0 hg h=>by
  obtain⟨pg,hp⟩:=h.bus
  refine(astore_any b F g0 pg cc dd t o n v ht d0 d1 v0 (by omega) u hp).mono ?_
  rintro e u' ⟨F',pg',he,hn,hp',hb⟩
  rw[hg]at hp'
  refine⟨he,F',h.wrote hn ⟨pg',hp'⟩ hb,KeptB.of (fun h=>h.wrote hn ⟨pg',hp'⟩ hb) fun B hB=>⟨⟨hB.1,Nat.lt_of_lt_of_le hB.2.1 hb.size,fun q=>(hn B q).elim hB.2.2 (fun q=>by have:=hB.2.1;omega)⟩,hb.block B hB.2.1 hB.2.2⟩⟩
 rcases hC with h|h
 ·exact hgo g rfl h
 ·exact hgo _ (astG_twice g dd t o n v) h
end
set_option maxHeartbeats 8000000
theorem store_any15{w1:World}{F0:Nat→Prop}{D b:Nat}{g:Int→Int}{cc dd:Sg}{t:Sta}{I:Ins}(ht:StaOk t)(o:Opd)(d0:0≤o.disp)(d1:o.disp<4294967296)(n v:Int)(v0:0≤v)(v1:v<4294967296)(w:World)(hD:DM w1 F0 D b g cc dd t I w):
  Calls Tryz.prog 88 #[.pointer (some ⟨D,0,none⟩),opV o,.int .i64 n,.int .u32 v] w fun e w'=>e=endO (putZ g dd t o n v).e∧DM w1 F0 D b (putZ g dd t o n v).g cc dd (putZ g dd t o n v).t I w':=by
 obtain⟨F2,hD⟩:=hD
 have HST:=Lib.hid (fun(W:World) (F1:Nat→Prop) (T:TypeId) (cs:List Value) (u:World) (F:Nat→Prop) (hC:SC W F1 D b g (astG g dd t o n v) cc dd t I u F)=>sc_call ht d0 d1 n v v0 v1 T cs u F hC)
 obtain⟨E,hE⟩:∃E,astE dd t o n=E:=⟨_,rfl⟩
 obtain⟨T,hT⟩:∃T,astS t o v=T:=⟨_,rfl⟩
 obtain⟨G,hG⟩:∃G,astG g dd t o n v=G:=⟨_,rfl⟩
 have HOK:=Lib.hid (show E=0→putZ g dd t o n v=⟨0,T,G⟩from fun e=>by rw[putZ_ok (hE.trans e),hT,hG])
 have HNO:=Lib.hid (show ¬E=0→putZ g dd t o n v=⟨2,t,G⟩from fun e=>by rw[putZ_bad (fun h=>e (hE.symm.trans h)),←hG,astG_no (fun h=>e (hE.symm.trans h))])
 rw[hE,hT,hG]at HST
 have HD:=Lib.hid hD
 have hv:IntKind.u64.wrap v=v:=by rw[IntKind.wrap_u64];omega
 clear hE hT hG ht d0 d1 hD
 rw[show opV o=.agg #[.int .i64 o.kind,.int .i64 o.reg,.int .i64 o.base,.int .i64 o.index,.int .i64 o.scale,.int .u32 o.disp]from rfl]
 go_enter Tryz.func88,Tryz.ntmps88
 go_upto_region 1 with fail
 obtain⟨W,hW⟩:∃W,W=w.alloc (.cells #[.int .i64 o.kind,.int .i64 o.reg,.int .i64 o.base,.int .i64 o.index,.int .i64 o.scale,.int .u32 o.disp] 32):=⟨_,rfl⟩
 rw[←hW]
 have HW:=Lib.hid (show DF w1 F0 D b g cc dd t I W F2 by rw[hW];exact HD.out.below (below_last (Below.refl _ _) _))
 have HBX:=Lib.hid (show W.heap[w.heap.size]?=some (.cells (opL' o).toArray 32 (0,0))by rw[hW];show(w.heap.push _)[w.heap.size]?=_;simp[opL'])
 have HBD:=Lib.hid (show w.heap.size≠D by have:=HD.out.lt;omega)
 have HBF:=Lib.hid (HD.out.fresh (Nat.le_refl w.heap.size))
 clear hW
 refine wp_region_made (γ:=Nat→Prop) (by kernel_rfl) (fun n=>n==17) 16 17 12 rfl rfl (by decide) (by decide) (by kernel_rfl) (SC W F2 D b g G cc dd t I) F2 (SF W) (DF W F2 D b G cc dd t I) 29 (staL T) info_sta (sta_one T)
  [some (.pointer (some ⟨D,0,none⟩)),some (.pointer (some ⟨D,0,none⟩)),some (.pointer (some ⟨D,18,none⟩)),some (.pointer (some ⟨b,0,none⟩)),some (.pointer (some ⟨D,0,none⟩)),some (.pointer (some ⟨D,0,none⟩)),some (.pointer (some ⟨D,19,none⟩)),some (.agg (staL t).toArray),some (.agg (opL' o).toArray),some (.int .i64 (n)),some (.int .u32 (v)),some (.int .u64 v),some (.tuple #[.agg (staL T).toArray,.int .i64 (E)]),some (.tuple #[.agg (staL T).toArray,.int .i64 (E)]),some (.agg (staL T).toArray),some (.int .i64 (E)),none,none,some (.int .i64 (E))] [(1,0,11),(2,1,12),(3,2,13),(5,4,15),(6,5,16),(7,6,17),(11,10,21),(13,12,23),(14,13,10),(15,13,10),(18,15,25)]
  [(0,0),(4,0),(8,5),(9,2),(10,3)] [12] (by decide) (by decide) (by decide) (by decide) ?_ ?_ (.inl (HW.out.rebase.below ((Below.refl _ _).drew))) _ _ rfl rfl staZA rfl (fun _ _=>by simp[execOp,go_sem,staZA]<;>rfl) 8 24 14 rfl rfl rfl (by kernel_rfl) (by kernel_rfl) (by decide) (.inr rfl) rfl (fun u F hC=>sc_new hC _ _ _) (fun u F B hC hB=>sc_put hC hB _) ?_ ?_ (by decide)
 ·repeat' apply And.intro
  all_goals first
   |trivial
   |exact⟨_,rfl,by kernel_rfl,rfl,rfl,rfl,fun _=>rfl,fun _ h=>⟨_,rfl,fun _ _=>by cases h;rfl⟩⟩
   |exact⟨_,rfl,by kernel_rfl,rfl,rfl,rfl,fun _=>rfl,fun _ h=>⟨_,rfl,fun _ hu=>by cases h;obtain⟨_,hd⟩:=sc_dm hu;exact ld1 (lo_bus hd)⟩⟩
   |exact⟨_,rfl,by kernel_rfl,rfl,rfl,rfl,fun _=>rfl,fun _ h=>⟨_,rfl,fun _ hu=>by cases h;obtain⟨_,hd⟩:=sc_dm hu;exact ld1 (lo_sta hd)⟩⟩
   |exact⟨_,rfl,by kernel_rfl,rfl,rfl,rfl,fun _=>rfl,fun _ h=>⟨_,rfl,fun _ _=>by cases h;simp[execOp,envV,hv,go_sem]⟩⟩
 ·repeat' apply And.intro
  all_goals first
   |trivial
   |exact⟨_,rfl,by kernel_rfl,rfl,fun _=>rfl,_,rfl,fun _ _=>rfl⟩
   |exact⟨_,rfl,by kernel_rfl,rfl,fun _=>rfl,_,rfl,fun _ hu=>ld1 (lo_row _ _ Tryz.underlying32 rfl info_opd1 (sc_box hu HBX.out HBF.out HBD.out))⟩
 ·intro n op f u F hn ho hC hdf hbase hdep
  have hdep:=fun j (h1:j≠16∧j≠17) hj=>hdep j h1.1 h1.2 hj
  obtain rfl:n=12:=by simpa using hn
  cases ho
  have e14:f.tmps.getD 14 undef=.pointer (some ⟨b,0,none⟩):=tab_at (hdep 3 (by decide) (by kernel_rfl))
  have e18:f.tmps.getD 18 undef=.agg (staL t).toArray:=tab_at (hdep 7 (by decide) (by kernel_rfl))
  have e19:f.tmps.getD 19 undef=.agg (opL' o).toArray:=tab_at (hdep 8 (by decide) (by kernel_rfl))
  have e20:f.tmps.getD 20 undef=.int .i64 (n):=tab_at (hdep 9 (by decide) (by kernel_rfl))
  have e22:f.tmps.getD 22 undef=.int .u64 v:=tab_at (hdep 11 (by decide) (by kernel_rfl))
  refine wp_call (by simp[execOp,Act.eval,e14,e18,e19,e20,e22,go_sem]<;>rfl) ((HST.out W F2 29 (staL T) u F hC).mono ?_)
  rintro e u2 ⟨rfl,F3,hd,hk⟩
  exact⟨_,rfl,_,F3,rfl,.inr hd,hk,rfl,fun _=>hd⟩
 ·intro f u F _ hE hV hB
  obtain⟨B,q16,hB,hBc⟩:=hB
  have q18:f 18=.int .i64 E:=tab_at (hV 18 (by decide) (by decide) (by decide))
  clear hV
  simp only[List.size_toArray,List.length_cons,List.length_nil,Nat.reduceAdd,laid,List.getElem?_toArray,List.getElem?_cons_zero,List.getElem?_cons_succ,Option.bind_some,Act.put,List.setIfInBounds_toArray,List.set_cons_zero,List.set_cons_succ,q16,q18]
  clear q16 q18
  have HR:=Lib.hid (range_in13 hBc 0 (staL T) rfl)
  have HE:=Lib.hid hE
  have HDM:=Lib.hid (show DM W F2 D b G cc dd t I u from⟨F,hE⟩)
  clear hB hBc hE hv
  by_cases h0:E=0
  ·subst h0
   have HOK1:=Lib.hid (HOK.out rfl)
   clear HOK HNO
   go_wp2_with (first
    |(refine wpList_load_mid rfl 29 (.tmp 8) rfl B 0 rfl (staL T) _ HR.out Tryz.underlying29 rfl info_sta ?_)
    |(refine store_named rfl 29 (.tmp 32) (.tmp 30) rfl D 19 (staL T) rfl rfl (HDM.out.has 19 23 (by decide)) info_sta (sta_one T) ?_;intro Y hY;have HY:=Lib.hid (HDM.out.cells 19 (staL T) hY (do_state b t T I));clear hY))
   obtain⟨F4,hf⟩:=HY.out
   exact bodyPost_end (v:=.tuple #[]) (by simp[results,Tryz.results88]) rfl ⟨by rw[HOK1.out];rfl,by rw[HOK1.out];exact⟨F4,HW.out.back hf⟩⟩
  ·have e1:(E != 0)=true:=by simpa using h0
   have HNO1:=Lib.hid (HNO.out h0)
   clear h0 HNO HOK
   go_wp2_with fail
   exact⟨rfl,by rw[HNO1.out];rfl,by rw[HNO1.out];exact⟨F,HW.out.back HE.out⟩⟩
end
section
open Go.ChangeShapes Go.WideShapes Go.ChangeAt Go.RowKit
set_option maxRecDepth 100000
theorem endO_ok{E:Int}(h:E=0):endO E=.returned (.tuple #[]):=if_pos h
theorem endO_bad{E:Int}(h:¬E=0):endO E=thrown E:=if_neg h
def endB(Ea Xa Eb Xb:Int):Ending:=if Ea=0∧Eb=0 then .returned (.tuple #[.int .u32 Xa,.int .u32 Xb])else thrown 2
theorem endB_ok{Ea Xa Eb Xb:Int}(h:Ea=0)(k:Eb=0):endB Ea Xa Eb Xb=.returned (.tuple #[.int .u32 Xa,.int .u32 Xb]):=if_pos ⟨h,k⟩
theorem endB_bad{Ea Xa Eb Xb:Int}(h:¬(Ea=0∧Eb=0)):endB Ea Xa Eb Xb=thrown 2:=if_neg h
set_option maxHeartbeats 2000000
theorem both_any15{w1:World}{F0:Nat→Prop}{D b:Nat}{g:Int→Int}{cc dd:Sg}{t:Sta}{I:Ins}(ht:StaOk t)(hA:0≤I.a.disp∧I.a.disp<4294967296)(hB:0≤I.b.disp∧I.b.disp<4294967296)(w:World)(hD:DM w1 F0 D b g cc dd t I w):
  Calls Tryz.prog 72 #[.pointer (some ⟨D,0,none⟩)] w fun e w'=>e=endB (aldE dd t I.a I.size) (lodV g dd t I.a I.size) (aldE dd t I.b I.size) (lodV g dd t I.b I.size)∧Below w.heap.size w w':=by
 have HF:=Lib.hid (fun u (h:DM w1 F0 D b g cc dd t I u)=>first_any15 ht hA.1 hA.2 u h)
 have HS:=Lib.hid (fun u (h:DM w1 F0 D b g cc dd t I u)=>second_any15 ht hB.1 hB.2 u h)
 obtain⟨Ea,h1⟩:∃E,aldE dd t I.a I.size=E:=⟨_,rfl⟩
 obtain⟨Xa,h2⟩:∃X,lodV g dd t I.a I.size=X:=⟨_,rfl⟩
 obtain⟨Eb,h3⟩:∃E,aldE dd t I.b I.size=E:=⟨_,rfl⟩
 obtain⟨Xb,h4⟩:∃X,lodV g dd t I.b I.size=X:=⟨_,rfl⟩
 rw[h1,h2]at HF
 rw[h3,h4]at HS
 rw[h1,h2,h3,h4]
 have HD:=Lib.hid hD
 clear h1 h2 h3 h4 ht hA hB hD
 go_enter Tryz.func72,Tryz.ntmps72
 go_wp2_with fail
 ((with_reducible refine(HF.out _ HD.out).mono ?_);rintro e w2 ⟨rfl,b1⟩)
 have HD1:=Lib.hid (HD.out.below b1)
 have HB1:=Lib.hid b1
 clear b1
 by_cases h:Ea=0
 ·rw[endL_ok h]
  go_wp2_with fail
  ((with_reducible refine(HS.out _ HD1.out).mono ?_);rintro e w3 ⟨rfl,b2⟩)
  have HB2:=Lib.hid (below_step HB1.out b2)
  clear b2
  by_cases k:Eb=0
  ·have HE:=Lib.hid (endB_ok (Xa:=Xa) (Xb:=Xb) h k)
   rw[endL_ok k]
   clear h k
   go_wp2_with fail
   go_ret2
   exact⟨HE.out.symm,HB2.out⟩
  ·have HE:=Lib.hid (endB_bad (Xa:=Xa) (Xb:=Xb) (fun q:Ea=0∧Eb=0=>k q.2))
   rw[endL_bad k]
   clear h k
   exact⟨rfl,HE.out.symm,HB2.out⟩
 ·have HE:=Lib.hid (endB_bad (Xa:=Xa) (Xb:=Xb) (fun q:Ea=0∧Eb=0=>h q.1))
  rw[endL_bad h]
  clear h
  exact⟨rfl,HE.out.symm,HB1.out⟩
set_option maxHeartbeats 8000000
theorem put_any15{w1:World}{F0:Nat→Prop}{D b:Nat}{g:Int→Int}{cc dd:Sg}{t:Sta}{I:Ins}(ht:StaOk t)(hA:0≤I.a.disp∧I.a.disp<4294967296)(v:Int)(v0:0≤v)(v1:v<4294967296)(w:World)(hD:DM w1 F0 D b g cc dd t I w):
  Calls Tryz.prog 64 #[.pointer (some ⟨D,0,none⟩),.int .u32 v] w fun e w'=>e=endO (putZ g dd t I.a I.size v).e∧DM w1 F0 D b (putZ g dd t I.a I.size v).g cc dd (putZ g dd t I.a I.size v).t I w':=by
 have HST:=Lib.hid (fun u (h:DM w1 F0 D b g cc dd t I u)=>store_any15 ht I.a hA.1 hA.2 I.size v v0 v1 u h)
 obtain⟨M,hM⟩:∃M,putZ g dd t I.a I.size v=M:=⟨_,rfl⟩
 rw[hM]at HST ⊢
 rw[show opV I.a=.agg (opL' I.a).toArray from rfl]at HST
 have HD:=Lib.hid hD
 clear hM ht hA v0 v1 hD
 go_enter Tryz.func64,Tryz.ntmps64
 refine wp_region_autoT (by kernel_rfl) 12 _ rfl rfl (by kernel_rfl) (fun n=>false) (by kernel_rfl) (DB w w1 F0 D b g cc dd t I) [some (.pointer (some ⟨D,0,none⟩)),some (.pointer (some ⟨D,0,none⟩)),some (.pointer (some ⟨D,0,none⟩)),some (.pointer (some ⟨D,0,none⟩)),some (.pointer (some ⟨D,3,none⟩)),some (.agg (opL' I.a).toArray),some (.pointer (some ⟨D,0,none⟩)),some (.pointer (some ⟨D,0,none⟩)),some (.pointer (some ⟨D,0,none⟩)),some (.pointer (some ⟨D,2,none⟩)),some (.int .i64 (I.size)),some (.int .u32 (v))]
  [(2,1,5),(3,2,6),(4,3,7),(5,4,8),(7,6,10),(8,7,11),(9,8,12),(10,9,13)] [(0,0),(1,0),(6,0),(11,1)] [] (by decide) ?_ ?_ (DB.start HD.out) (fun _ _ _ _ h=>nomatch h) ?_
 ·repeat' apply And.intro
  all_goals first
   |trivial
   |exact⟨_,rfl,by kernel_rfl,rfl,rfl,rfl,fun _=>rfl,fun _ h=>⟨_,rfl,fun _ _=>by cases h;rfl⟩⟩
   |exact⟨_,rfl,by kernel_rfl,rfl,rfl,rfl,fun _=>rfl,fun _ h=>⟨_,rfl,fun _ hu=>by cases h;exact ld1 (lo_a hu.dm)⟩⟩
   |exact⟨_,rfl,by kernel_rfl,rfl,rfl,rfl,fun _=>rfl,fun _ h=>⟨_,rfl,fun _ hu=>by cases h;exact ld1 (lo_size hu.dm)⟩⟩
 ·repeat' apply And.intro
  all_goals first
   |trivial
   |exact⟨_,rfl,by kernel_rfl,rfl,fun _=>rfl,_,rfl,fun _ _=>rfl⟩
 ·intro f u hinv hV
  have c4:f 0=.pointer (some ⟨D,0,none⟩):=tab_at (hV 0 (by decide))
  have c9:f 5=.agg (opL' I.a).toArray:=tab_at (hV 5 (by decide))
  have c14:f 10=.int .i64 I.size:=tab_at (hV 10 (by decide))
  have c15:f 11=.int .u32 v:=tab_at (hV 11 (by decide))
  refine wp_call_or (f:=88) (args:=#[f 0,f 5,f 10,f 11]) (by kernel_rfl) ?_
  rw[c4,c9,c14,c15]
  refine(HST.out u hinv.dm).mono ?_
  rintro e u2 ⟨rfl,hd⟩
  by_cases h:M.e=0
  ·exact .inl ⟨_,endO_ok h,bodyPost_end (v:=.tuple #[]) (by simp[results,Tryz.results64]) (by kernel_rfl) ⟨(endO_ok h).symm,hd⟩⟩
  ·exact .inr ⟨_,endO_bad h,by kernel_rfl,(endO_bad h).symm,hd⟩
theorem tell_any15{w1:World}{F0:Nat→Prop}{D b:Nat}{g:Int→Int}{cc dd:Sg}{t:Sta}{I:Ins}(c p z s o d:Bool)(w:World)(hD:DM w1 F0 D b g cc dd t I w):
  Calls Tryz.prog 86 #[.pointer (some ⟨D,0,none⟩),.agg #[.bool c,.bool p,.bool z,.bool s,.bool o,.bool d]] w fun e w'=>e=.returned (.tuple #[])∧DM w1 F0 D b g cc dd (tellT t c p z s o) I w':=by
 have HD:=Lib.hid hD
 have HL:=Lib.hid (show w.heap.size≠D by have:=hD.lt;omega)
 clear hD
 go_enter Tryz.func86,Tryz.ntmps86
 go_upto_region 1 with fail
 obtain⟨W,hW⟩:∃W,W=w.alloc (.cells #[.bool c,.bool p,.bool z,.bool s,.bool o,.bool d] 25):=⟨_,rfl⟩
 rw[←hW]
 have hb:W.heap[w.heap.size]?=some (.cells #[.bool c,.bool p,.bool z,.bool s,.bool o,.bool d] 25 (0,0)):=by rw[hW];show(w.heap.push _)[w.heap.size]?=_;simp
 have HW:=Lib.hid (show Below w.heap.size w W by rw[hW];exact below_last (Below.refl _ _) _)
 have HB:=Lib.hid hb
 have cD:=(HD.out.below HW.out).dir
 have c5:W.cell? ⟨w.heap.size,5,none⟩=some (.bool d):=(cell_block hb 5).1
 have z5:=(cell_block hb 5).2
 clear hW hb
 go_upto_region 2 with fail
 obtain⟨X,hX⟩:∃X,X=W.setCell ⟨w.heap.size,5,none⟩ (.bool t.d):=⟨_,rfl⟩
 rw[←hX]
 have HX:=Lib.hid (show DM w1 F0 D b g cc dd t I X by rw[hX];exact HD.out.below (HW.out.setCell (by exact Nat.le_refl _) _))
 have HR:=Lib.hid (show X.rangeAt w.heap.size 0 (flL c p z s o t.d)by rw[hX];exact range_in13 (block_setCell HB.out 5 (.bool t.d)) 0 _ rfl)
 clear hX cD c5 z5
 go_wp2_with (first
  |(refine wpList_load_mid rfl 25 (.tmp 3) rfl w.heap.size 0 rfl (flL c p z s o t.d) _ HR.out Tryz.underlying25 rfl info_fl15 ?_)
  |(refine store_named rfl 25 (.tmp 15) (.tmp 12) rfl D 28 (flL c p z s o t.d) rfl rfl (HX.out.has 28 6 (by decide)) info_fl15 (flL_one _ _ _ _ _ _) ?_;intro Y hY;have HY:=Lib.hid (HX.out.cells 28 _ hY (do_flags b t I c p z s o t.d));clear hY))
 exact bodyPost_end (v:=.tuple #[]) (by simp[results,Tryz.results86]) rfl ⟨rfl,HY.out⟩
theorem tell_fl15{w1:World}{F0:Nat→Prop}{D b:Nat}{g:Int→Int}{cc dd:Sg}{t:Sta}{I:Ins}(c p z s o d:Bool)(w:World)(hD:DM w1 F0 D b g cc dd t I w):Calls Tryz.prog 86 #[.pointer (some ⟨D,0,none⟩),.agg (flL c p z s o d).toArray] w fun e w'=>e=.returned (.tuple #[])∧DM w1 F0 D b g cc dd (tellT t c p z s o) I w':=tell_any15 c p z s o d w hD
theorem keep_eq15(g:Int→Int)(dd:Sg)(t:Sta)(I:Ins)(v:Int)(c p z s o:Bool):keepZ g dd t I v c p z s o=if(putZ g dd t I.a I.size v).e=0 then⟨0,tellT (putZ g dd t I.a I.size v).t c p z s o,(putZ g dd t I.a I.size v).g⟩else⟨2,t,g⟩:=by
 unfold keepZ
 by_cases h:astE dd t I.a I.size=0
 ·rw[putZ_ok h,if_pos h,if_pos rfl]
 ·rw[putZ_bad h,if_neg h,if_neg (show ¬(2:Int)=0 by decide)]
theorem put_two(g:Int→Int)(dd:Sg)(t:Sta)(o:Opd)(n v:Int):(putZ g dd t o n v).e=0∨putZ g dd t o n v=⟨2,t,g⟩:=by
 by_cases h:astE dd t o n=0
 ·rw[putZ_ok h];exact .inl rfl
 ·exact .inr (putZ_bad h)
theorem keep_any15{w1:World}{F0:Nat→Prop}{D b:Nat}{g:Int→Int}{cc dd:Sg}{t:Sta}{I:Ins}(ht:StaOk t)(hA:0≤I.a.disp∧I.a.disp<4294967296)(v:Int)(v0:0≤v)(v1:v<4294967296)(c p z s o d:Bool)(w:World)(hD:DM w1 F0 D b g cc dd t I w):
  Calls Tryz.prog 66 #[.pointer (some ⟨D,0,none⟩),.int .u32 v,.agg #[.bool c,.bool p,.bool z,.bool s,.bool o,.bool d]] w fun e w'=>e=endO (keepZ g dd t I v c p z s o).e∧DM w1 F0 D b (keepZ g dd t I v c p z s o).g cc dd (keepZ g dd t I v c p z s o).t I w':=by
 obtain⟨F,hD⟩:=hD
 have HPU:=Lib.hid (fun(w1:World) (F0:Nat→Prop) (u:World) (h:DM w1 F0 D b g cc dd t I u)=>put_any15 ht hA v v0 v1 u h)
 have HK:=Lib.hid (keep_eq15 g dd t I v c p z s o)
 have HP2:=Lib.hid (put_two g dd t I.a I.size v)
 obtain⟨M,hM⟩:∃M,putZ g dd t I.a I.size v=M:=⟨_,rfl⟩
 rw[hM]at HPU HK HP2
 have HD:=Lib.hid hD
 clear hM ht hA v0 v1 hD
 go_enter Tryz.func66,Tryz.ntmps66
 go_upto_region 1 with fail
 obtain⟨W,hW⟩:∃W,W=w.alloc (.cells #[.bool c,.bool p,.bool z,.bool s,.bool o,.bool d] 25):=⟨_,rfl⟩
 rw[←hW]
 have HW:=Lib.hid (show DF w1 F0 D b g cc dd t I W F by rw[hW];exact HD.out.below (below_last (Below.refl _ _) _))
 have HRB:=Lib.hid (show DM W F D b g cc dd t I W from⟨F,HW.out.rebase⟩)
 have HB:=Lib.hid (show W.heap[w.heap.size]?=some (.cells #[.bool c,.bool p,.bool z,.bool s,.bool o,.bool d] 25 (0,0))by rw[hW];show(w.heap.push _)[w.heap.size]?=_;simp)
 have HBD:=Lib.hid (show w.heap.size≠D by have:=HD.out.lt;omega)
 have HBF:=Lib.hid (HD.out.fresh (Nat.le_refl w.heap.size))
 clear hW
 go_wp2_with fail
 ((with_reducible refine(HPU.out W F _ HRB.out).mono ?_);rintro e w2 ⟨rfl,F2,hd⟩)
 have HD2:=Lib.hid (show DM w1 F0 D b M.g cc dd M.t I w2 from⟨F2,HW.out.back hd⟩)
 have HR:=Lib.hid (range_in13 (hd.stays HB.out HBF.out HBD.out) 0 (flL c p z s o d) rfl)
 clear hd
 by_cases h:M.e=0
 ·have HM:=Lib.hid (HK.out.trans (if_pos h))
  rw[endO_ok h]
  clear h HK HP2
  go_wp2_with (refine wpList_load_mid rfl 25 (.tmp 5) rfl w.heap.size 0 rfl (flL c p z s o d) _ HR.out Tryz.underlying25 rfl info_fl15 ?_)
  ((with_reducible refine(tell_fl15 c p z s o d _ HD2.out).mono ?_);rintro e w3 ⟨rfl,hd⟩)
  have HD3:=Lib.hid hd
  clear hd
  go_wp2_with fail
  exact bodyPost_end (v:=.tuple #[]) (by simp[results,Tryz.results66]) rfl ⟨by rw[HM.out];rfl,by rw[HM.out];exact HD3.out⟩
 ·have HM:=Lib.hid (HK.out.trans (if_neg h))
  have hm:M=⟨2,t,g⟩:=HP2.out.resolve_left h
  subst hm
  rw[endO_bad h]
  exact⟨rfl,by rw[HM.out];rfl,by rw[HM.out];exact HD2.out⟩
theorem held_any15{w1:World}{F0:Nat→Prop}{D b:Nat}{g:Int→Int}{cc dd:Sg}{t:Sta}{I:Ins}(c0:-9223372036854775808≤I.cond)(c1:I.cond≤9223372036854775807)(w:World)(hD:DM w1 F0 D b g cc dd t I w):
  Calls Tryz.prog 102 #[.pointer (some ⟨D,0,none⟩)] w fun e w'=>e=.returned (.int .u32 (heldF t I.cond))∧Below w.heap.size w w':=by
 have HHO:=Lib.hid (fun u=>cholds_any I.cond t.c t.p t.z t.s t.o t.d c0 c1 u)
 obtain⟨hc,h⟩:∃hc,condH I.cond t.c t.p t.z t.s t.o=hc:=⟨_,rfl⟩
 have HE:=Lib.hid (show heldF t I.cond=if hc then 1 else 0 by rw[←h];rfl)
 rw[h]at HHO
 rw[show(#[Value.bool t.c,.bool t.p,.bool t.z,.bool t.s,.bool t.o,.bool t.d]:Array Value)=(flL t.c t.p t.z t.s t.o t.d).toArray from rfl]at HHO
 have HD:=Lib.hid hD
 clear h c0 c1 hD
 rw[HE.out]
 clear HE
 go_enter Tryz.func102,Tryz.ntmps102
 go_wp2_with fail
 refine wp_region_auto (by kernel_rfl) (fun n=>false) (by kernel_rfl) (DB w w1 F0 D b g cc dd t I) [some (.pointer (some ⟨D,0,none⟩)),some (.pointer (some ⟨D,0,none⟩)),some (.pointer (some ⟨D,0,none⟩)),some (.pointer (some ⟨D,1,none⟩)),some (.int .i64 (I.cond)),some (.pointer (some ⟨D,0,none⟩)),some (.pointer (some ⟨D,0,none⟩)),some (.pointer (some ⟨D,19,none⟩)),some (.pointer (some ⟨D,28,none⟩)),some (.agg (flL t.c t.p t.z t.s t.o t.d).toArray),some (.bool hc)]
  [(1,0,3),(2,1,4),(3,2,5),(4,3,6),(6,5,8),(7,6,9),(8,7,10),(9,8,11)] [(0,0),(5,0)] [10] (by decide) ?_ ?_ (DB.start HD.out) ?_ ?_
 ·repeat' apply And.intro
  all_goals first
   |trivial
   |exact⟨_,rfl,by kernel_rfl,rfl,rfl,rfl,fun _=>rfl,fun _ h=>⟨_,rfl,fun _ _=>by cases h;rfl⟩⟩
   |exact⟨_,rfl,by kernel_rfl,rfl,rfl,rfl,fun _=>rfl,fun _ h=>⟨_,rfl,fun _ hu=>by cases h;exact ld1 (lo_cond hu.dm)⟩⟩
   |exact⟨_,rfl,by kernel_rfl,rfl,rfl,rfl,fun _=>rfl,fun _ h=>⟨_,rfl,fun _ hu=>by cases h;exact ld1 (lo_fls hu.dm)⟩⟩
 ·repeat' apply And.intro
  all_goals first
   |trivial
   |exact⟨_,rfl,by kernel_rfl,rfl,fun _=>rfl,_,rfl,fun _ _=>rfl⟩
 ·intro n op f u hn ho hinv hdf hbase hdep
  obtain rfl:n=10:=by simpa using hn
  ·cases ho
   have e7:f.tmps.getD 7 undef=.int .i64 (I.cond):=tab_at (hdep 4 (by kernel_rfl))
   have e12:f.tmps.getD 12 undef=.agg (flL t.c t.p t.z t.s t.o t.d).toArray:=tab_at (hdep 9 (by kernel_rfl))
   refine wp_call (by simp[execOp,Act.eval,e7,e12,go_sem]<;>rfl) ((HHO.out u).mono ?_)
   rintro e u2 ⟨rfl,hb⟩
   exact⟨_,rfl,_,rfl,hinv.below hb,rfl⟩
 ·intro f u hinv hV
  have q10:f 10=.bool hc:=tab_at (hV 10 (by decide))
  clear hV
  simp only[List.size_toArray,List.length_cons,List.length_nil,Nat.reduceAdd,laid,List.getElem?_toArray,List.getElem?_cons_zero,List.getElem?_cons_succ,Option.bind_some,Act.put,List.setIfInBounds_toArray,List.set_cons_zero,List.set_cons_succ,q10]
  clear q10
  have HI:=Lib.hid hinv.bel
  clear hinv
  cases hc with
  |true=>
   go_wp2_with fail
   go_ret
   exact⟨rfl,HI.out⟩
  |false=>
   go_wp2_with fail
   go_ret
   exact⟨rfl,HI.out⟩
theorem spread_any15(v n:Int)(w:World):Calls Tryz.prog 101 #[.int .u32 v,.int .i64 n] w fun e w'=>e=.returned (.int .u32 (sgn v n%4294967296))∧w=w':=by
 have HS:=Lib.hid (fun u=>signed_any v n u)
 generalize sgn v n=S at HS ⊢
 go_enter Tryz.func101,Tryz.ntmps101
 go_wp2_with fail
 ((with_reducible refine(HS.out _).mono ?_);rintro e w2 ⟨rfl,rfl⟩)
 go_wp2_with fail
 go_ret
 exact⟨rfl,rfl⟩
theorem mark_any15{w1:World}{F0:Nat→Prop}{D b:Nat}{g:Int→Int}{cc dd:Sg}{t:Sta}{I:Ins}(hop:I.op=41∨I.op=42∨I.op=43∨I.op=44∨I.op=45)(w:World)(hD:DM w1 F0 D b g cc dd t I w):
  Calls Tryz.prog 74 #[.pointer (some ⟨D,0,none⟩)] w fun e w'=>e=.returned (.tuple #[])∧DM w1 F0 D b g cc dd (markZ g t I.op).t I w':=by
 have HC:=Lib.hid (fun(Y:World) (x:Bool) (hY:Y=w.setCell ⟨D,28,none⟩ (.bool x))=>hD.cell (t':={ t with c:=x }) 28 (.bool x) hY (by kernel_rfl))
 have HX:=Lib.hid (fun(Y:World) (x:Bool) (hY:Y=w.setCell ⟨D,33,none⟩ (.bool x))=>hD.cell (t':={ t with d:=x }) 33 (.bool x) hY (by kernel_rfl))
 have c0:=hD.op
 have c28:=hD.carry
 have c33:=hD.dir
 have z28:=hD.free 28
 have z33:=hD.free 33
 clear hD
 rcases hop with h|h|h|h|h
 ·clear HX c33 z33
  have HM:=Lib.hid (show(markZ g t I.op).t={ t with c:=false }by unfold markZ;rw[h];rfl)
  rw[h]at c0
  clear h
  go_enter Tryz.func74,Tryz.ntmps74
  go_wp2_with fail
  exact bodyPost_end (v:=.tuple #[]) (by simp[results,Tryz.results74]) rfl ⟨rfl,by rw[HM.out];exact HC.out _ false rfl⟩
 ·clear HX c33 z33
  have HM:=Lib.hid (show(markZ g t I.op).t={ t with c:=true }by unfold markZ;rw[h];rfl)
  rw[h]at c0
  clear h
  go_enter Tryz.func74,Tryz.ntmps74
  go_wp2_with fail
  exact bodyPost_end (v:=.tuple #[]) (by simp[results,Tryz.results74]) rfl ⟨rfl,by rw[HM.out];exact HC.out _ true rfl⟩
 ·clear HX c33 z33
  have HM:=Lib.hid (show(markZ g t I.op).t={ t with c:=(!t.c) }by unfold markZ;rw[h];rfl)
  rw[h]at c0
  clear h
  go_enter Tryz.func74,Tryz.ntmps74
  go_wp2_with fail
  exact bodyPost_end (v:=.tuple #[]) (by simp[results,Tryz.results74]) rfl ⟨rfl,by rw[HM.out];exact HC.out _ (!t.c) rfl⟩
 ·clear HC c28 z28
  have HM:=Lib.hid (show(markZ g t I.op).t={ t with d:=false }by unfold markZ;rw[h];rfl)
  rw[h]at c0
  clear h
  go_enter Tryz.func74,Tryz.ntmps74
  go_wp2_with fail
  exact bodyPost_end (v:=.tuple #[]) (by simp[results,Tryz.results74]) rfl ⟨rfl,by rw[HM.out];exact HX.out _ false rfl⟩
 ·clear HC c28 z28
  have HM:=Lib.hid (show(markZ g t I.op).t={ t with d:=true }by unfold markZ;rw[h];rfl)
  rw[h]at c0
  clear h
  go_enter Tryz.func74,Tryz.ntmps74
  go_wp2_with fail
  exact bodyPost_end (v:=.tuple #[]) (by simp[results,Tryz.results74]) rfl ⟨rfl,by rw[HM.out];exact HX.out _ true rfl⟩
end
end Go.Proofs.YtmdncgfheeijaaaGreat
