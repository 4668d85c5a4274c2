import Derived.Test.YtmdncgfheeijaaaGreatRows
import Derived.ProofKit
import Derived.OpenShut
import Derived.BigRegion
import Derived.Lib.Hide
import Derived.WalkLawsBesides
import Derived.Test.YtmdncgfheeijaaaGreatKVG1
import Derived.Test.YtmdncgfheeijaaaGreatKVG2
namespace Go.Proofs.YtmdncgfheeijaaaGreat
section
open Go
section
variable {P:Program} {ops:Array Oper} {Q:Exit→Act→World→Prop} {md:Region.Mode} {a0:Act} {Inv:World→Prop} {p:Nat→(Nat→Value)→World→Prop} {G:World→World→Prop} {look:Nat→List Nat}
set_option maxRecDepth 100000
def coverB(ops:Array Oper)(k:Nat):Bool:=(List.range k).all fun j=>(List.range (k+1)).any fun i=>decide (j<i)&&(match ops[i]? with|some o=>need o j|none=>false)
theorem coverB_at{k:Nat}(h:coverB ops k=true)(j:Nat)(hj:j<k):∃i o,j<i∧i≤k∧ops[i]?=some o∧need o j=true:=by
 have h1:=List.all_eq_true.1 h j (List.mem_range.2 hj)
 rw[List.any_eq_true]at h1
 obtain⟨i,hi,h2⟩:=h1
 simp only[Bool.and_eq_true,decide_eq_true_eq]at h2
 cases ho:ops[i]? with
 |none=>rw[ho]at h2;exact absurd h2.2 (by simp)
 |some o=>
  rw[ho]at h2
  exact⟨i,o,h2.1,by have:=List.mem_range.1 hi;omega,ho,h2.2⟩
theorem need_at{o:Oper}{j:Nat}(h:need o j=true):∃e∈o.after,Region.binds .any e=true∧e.on=j:=by
 unfold need at h
 rw[Array.any_eq_true']at h
 obtain⟨e,he,h4⟩:=h
 simp only[Bool.and_eq_true,beq_iff_eq]at h4
 exact⟨e,he,h4⟩
theorem wpAny_done(listed:Array Bool)(a:Act)(w:World)(h:∀i,i<ops.size→listed.getD i false=true)(hl:listed.size=ops.size)(hQ:Q .normal a w):∀fuel,wpAny P .any ops Q fuel listed a w:=by
 have hr:Region.ready .any ops listed=[]:=by
  cases hr:Region.ready .any ops listed with
  |nil=>rfl
  |cons i l=>
   exfalso
   have hi:i∈Region.ready .any ops listed:=by rw[hr];exact List.mem_cons_self
   obtain⟨hu,o,ho,_⟩:=mem_ready.1 hi
   have hio:i<ops.size:=(Array.getElem?_eq_some_iff.1 ho).1
   have hil:i<listed.size:=by rw[hl];exact hio
   have hu':listed.getD i false=false:=by simpa[Array.getD_eq_getD_getElem?,Array.getElem?_eq_getElem hil]using hu
   rw[h i hio]at hu'
   cases hu'
 intro fuel
 cases fuel with
 |zero=>exact⟨hr,hQ⟩
 |succ fuel=>exact⟨fun _=>hQ,fun i hi=>by rw[hr]at hi;cases hi⟩
theorem wpAny_tail(k:Nat)(ok:Oper)(hok:ops[k]?=some ok)(hk1:ops.size=k+1)(hcov:coverB ops k=true)
  (hg:∀(i:Nat) (o:Oper),ops[i]?=some o→o.guard=none)
  (hd:∀(i j:Nat) (oi oj:Oper) (t:Tmp),ops[i]?=some oi→ops[j]?=some oj→oi.dst=some t→oj.dst=some t→i=j)
  (hsz:∀(i:Nat) (o:Oper) (t:Tmp),ops[i]?=some o→o.dst=some t→t<a0.tmps.size)
  (hlt:∀(i:Nat) (o:Oper),ops[i]?=some o→∀e∈o.after,Region.binds .any e=true→e.on<i)
  (hlook:∀(i:Nat) (o:Oper) (k:Nat),ops[i]?=some o→k∈look i→(k=i∧o.dst≠none)∨∃e∈o.after,Region.binds .any e=true∧e.on=k)
  (hp:∀i f f' w w',p i f w→(∀k∈look i,f k=f' k)→G w w'→p i f' w') (hG:∀w,G w w)
  (step:∀(i:Nat) (o:Oper) (a:Act) (w:World),i<k→ops[i]?=some o→Inv w→a.tmps.size=a0.tmps.size→a.defers=a0.defers→(∀t,(∀(i:Nat) (o:Oper),ops[i]?=some o→o.dst≠some t)→a.tmps.getD t undef=a0.tmps.getD t undef) →
   (∀e∈o.after,Region.binds .any e=true→p e.on (got ops a) w) →
   o.wp P a w (fun a' w'=>∃v,a'=a.put o.dst v∧Inv w'∧G w w'∧p i (fun k=>if k=i then v else got ops a k) w') Q)
  (last:∀a w,a.tmps.size=a0.tmps.size→a.defers=a0.defers→(∀t,(∀(i:Nat) (o:Oper),ops[i]?=some o→o.dst≠some t)→a.tmps.getD t undef=a0.tmps.getD t undef)→Inv w→(∀i,i<k→p i (got ops a) w)→ok.wp P a w (fun a' w'=>Q .normal a' w') Q):
  ∀fuel listed a w,listed.getD k false=false→((List.range ops.size).countP fun i=>!listed.getD i false)≤fuel→Mid ops .any a0 (fun w (_:Unit)=>Inv w) (fun i f w _=>p i f w) listed a w ()→wpAny P .any ops Q fuel listed a w:=by
 have hkk:k<ops.size:=by omega
 have hdown:∀listed:Array Bool,(∀(j:Nat) (o:Oper),ops[j]?=some o→listed.getD j false=true→∀e∈o.after,Region.binds .any e=true→listed.getD e.on false=true)→(∀e∈ok.after,Region.binds .any e=true→listed.getD e.on false=true)→∀n j,n+j+1=k→listed.getD j false=true:=by
  intro listed hc hd n
  induction n using Nat.strongRecOn with
  |ind n ih=>
   intro j hj
   obtain⟨i,o,hji,hik,ho,hn⟩:=coverB_at hcov j (by omega)
   obtain⟨e,he,hb,hon⟩:=need_at hn
   rw[←hon]
   by_cases hi:i=k
   ·subst hi
    rw[hok]at ho;cases ho
    exact hd e he hb
   ·exact hc i o ho (ih (k-1-i) (by omega) i (by omega)) e he hb
 intro fuel
 induction fuel with
 |zero=>
  intro listed a w hku hc m
  have h0:((List.range ops.size).countP fun i=>!listed.getD i false)=0:=by omega
  rw[List.countP_eq_zero]at h0
  have:=h0 k (List.mem_range.2 hkk)
  rw[hku]at this
  simp at this
 |succ fuel ih=>
  intro listed a w hku hc m
  refine⟨fun hr=>?_,fun i hi=>?_⟩
  ·exfalso
   have hall:∀i,i<ops.size→listed.getD i false=true:=by
    intro i
    induction i using Nat.strongRecOn with
    |ind i ih=>
     intro hi
     cases hb:listed.getD i false with
     |true=>rfl
     |false=>
      exfalso
      have ho:ops[i]?=some ops[i]:=Array.getElem?_eq_getElem hi
      have:i∈Region.ready .any ops listed:=mem_ready.2 ⟨by
       have hil:i<listed.size:=by rw[m.len];exact hi
       simpa[Array.getD_eq_getD_getElem?,Array.getElem?_eq_getElem hil]using hb,ops[i],ho,fun e he hbi=>ih e.on (hlt i _ ho e he hbi) (by have:=hlt i _ ho e he hbi;omega)⟩
      rw[hr]at this
      cases this
   have:=hall k hkk
   rw[hku]at this
   cases this
  obtain⟨hu,o,ho,hdep⟩:=mem_ready.1 hi
  have hio:i<ops.size:=(Array.getElem?_eq_some_iff.1 ho).1
  have hil:i<listed.size:=by rw[m.len];exact hio
  have hu':listed.getD i false=false:=by simpa[Array.getD_eq_getD_getElem?,Array.getElem?_eq_getElem hil]using hu
  have hset:∀j,(listed.setIfInBounds i true).getD j false=if j=i then true else listed.getD j false:=fun j=>by
   by_cases e:j=i
   ·subst e;simp[Array.getD_eq_getD_getElem?,hil]
   ·rw[if_neg e];simp[Array.getD_eq_getD_getElem?,Ne.symm e]
  have hw:Region.wanted o (yielded ops a.tmps)=true:=by simp[Region.wanted,hg i o ho]
  unfold wpOp
  simp only[ho,hw,if_true]
  by_cases hik:i=k
  ·subst hik
   rw[hok]at ho;cases ho
   have hj:∀j,j<i→listed.getD j false=true:=fun j hj=>hdown listed m.closed hdep (i-1-j) j (by omega)
   have hs:=last a w m.size m.defers m.base m.inv (fun j hjk=>m.done j (hj j hjk))
   refine .inl (Oper.wp_mono ?_ hs)
   intro a' w' hQ
   refine wpAny_done _ a' w' (fun j hjs=>?_) (by simp[m.len]) hQ fuel
   rw[hset]
   by_cases e:j=i
   ·rw[if_pos e]
   ·rw[if_neg e];exact hj j (by omega)
  have hs:=step i o a w (by omega) ho m.inv m.size m.defers m.base (fun e he hb=>m.done e.on (hdep e he hb))
  refine .inl (Oper.wp_mono ?_ hs)
  rintro a' w' ⟨v,rfl,hinv,hgw,hpi⟩
  have hgot:∀k,k≠i→got ops (a.put o.dst v) k=got ops a k:=fun k hk=>by
   unfold got
   cases hk2:(ops[k]?).bind (·.dst)with
   |none=>rfl
   |some t=>
    obtain⟨ok,hok,hkd⟩:∃ok,ops[k]?=some ok∧ok.dst=some t:=by
     cases h:ops[k]? with
     |none=>rw[h]at hk2;cases hk2
     |some ok=>rw[h]at hk2;exact⟨ok,rfl,hk2⟩
    exact put_other a o.dst v t (fun h=>hk (hd k i ok o t hok ho hkd h))
  refine ih _ _ _ (by rw[hset,if_neg (fun e=>hik e.symm)];exact hku) ?_ ⟨by simp[m.len],by rw[put_size,m.size],by rw[put_defers,m.defers],fun t ht=>by rw[put_other a o.dst v t (ht i o ho),m.base t ht],hinv,?_,?_⟩
  ·have hlt2:((List.range ops.size).countP fun j=>!(listed.setIfInBounds i true).getD j false)<((List.range ops.size).countP fun j=>!listed.getD j false):=by
    refine countP_less (fun j hj=>?_) (i:=i) (by rw[hu'];rfl) (by rw[hset,if_pos rfl];rfl) _ (List.mem_range.2 hio)
    rw[hset]at hj
    by_cases e:j=i
    ·rw[if_pos e]at hj;cases hj
    ·rw[if_neg e]at hj;exact hj
   omega
  ·intro j oj hoj hj e he hb
   rw[hset]at hj ⊢
   by_cases hei:e.on=i
   ·rw[if_pos hei]
   ·rw[if_neg hei]
    by_cases hji:j=i
    ·subst hji
     rw[ho]at hoj;cases hoj
     exact hdep e he hb
    ·rw[if_neg hji]at hj
     exact m.closed j oj hoj hj e he hb
  ·intro j hj
   rw[hset]at hj
   by_cases hji:j=i
   ·subst hji
    refine hp j _ _ w' w' hpi (fun k hk=>?_) (hG w')
    rcases hlook j o k ho hk with⟨rfl,hdn⟩|⟨e,he,hb,rfl⟩
    ·rw[if_pos rfl]
     unfold got
     cases hdd:o.dst with
     |none=>exact absurd hdd hdn
     |some t=>
      have:(ops[k]?).bind (·.dst)=some t:=by rw[ho];exact hdd
      rw[this]
      exact(put_same a t v (by rw[m.size];exact hsz k o t ho hdd)).symm
    ·have hne:e.on≠j:=by have:=hlt j o ho e he hb;omega
     rw[if_neg hne,hgot _ hne]
   ·rw[if_neg hji]at hj
    refine hp j _ _ w w' (m.done j hj) (fun k hk=>?_) hgw
    have hki:k≠i:=by
     rcases Nat.lt_or_ge j ops.size with hjo|hjo
     ·have hoj:ops[j]?=some ops[j]:=Array.getElem?_eq_getElem hjo
      rcases hlook j _ k hoj hk with⟨rfl,_⟩|⟨e,he,hb,rfl⟩
      ·exact hji
      ·intro h
       have:=m.closed j _ hoj hj e he hb
       rw[h,hu']at this
       cases this
     ·have:listed.getD j false=false:=by simp[Array.getD_eq_getD_getElem?,Array.getElem?_eq_none (show listed.size≤j by rw[m.len];exact hjo)]
      rw[this]at hj;cases hj
    rw[hgot k hki]
theorem wp_region_valsT(hm:P.follows .mixedOrders=true){id:Nat}{a:Act}{w:World}(k:Nat)(ok:Oper)(hok:ops[k]?=some ok)(hk1:ops.size=k+1)(hcov:coverB ops k=true)(nod:Nat→Bool)(hfit:fitDraw ops (eyes nod fun i=>i) a.tmps.size=true)
  (Inv:World→Prop) (G:World→World→Prop) (V:Nat→Value→World→Prop)
  (hp:∀i v u u',V i v u→G u u'→V i v u') (hG:∀w,G w w) (h0:Inv { w with drawn:=w.drawn+1 })
  (step:∀(i:Nat) (o:Oper) (b:Act) (u:World),i<k→ops[i]?=some o→Inv u→b.tmps.size=a.tmps.size→(∀t,noDst ops t=true→b.tmps.getD t undef=a.tmps.getD t undef) →
   (∀j,need o j=true→V j (left nod (got ops b) j) u) →
   o.wp P b u (fun b' u'=>∃v,b'=b.put o.dst v∧Inv u'∧G u u'∧V i (if nod i then undef else v) u') Q)
  (last:∀(f:Nat→Value) u,Inv u→(∀i,i<k→V i (left nod f i) u)→ok.wp P (laid ops f a ops.size) u (fun b' u'=>Q .normal b' u') Q):
  (Code.region id ops true).wp P Q a w:=by
 have hsz:∀(i:Nat) (o:Oper) (t:Tmp),ops[i]?=some o→o.dst=some t→t<a.tmps.size:=fun _ _ t ho hd=>((fitDraw_at hfit ho).2.1 t hd).1
 refine wp_region_any hm (wpAny_tail (a0:=a) (Inv:=Inv) (G:=G) (p:=fun i f u=>V i (left nod f i) u) (look:=eyes nod fun i=>i) k ok hok hk1 hcov (fun _ _ ho=>(fitDraw_at hfit ho).1) (fun _ _ _ _ t hi hj hd he=>((fitDraw_at hfit hj).2.1 t he).2 _ _ hi hd) hsz (fun _ _ ho=>(fitDraw_at hfit ho).2.2.1) (fun _ _ k ho hk=>(fitDraw_at hfit ho).2.2.2 k hk) ?_ hG ?_ ?_ ops.size _ a _ ?_ ?_ ⟨by simp,rfl,rfl,fun _ _=>rfl,h0,?_,?_⟩)
 ·intro i f f' u u' h hl hg
  have e:left nod f i=left nod f' i:=by
   unfold left
   by_cases hn:nod i=true
   ·rw[if_pos hn,if_pos hn]
   ·rw[if_neg hn,if_neg hn]
    exact hl i (by unfold eyes;rw[if_neg hn];simp)
  rw[←e]
  exact hp i _ u u' h hg
 ·intro i o b u hik ho hi hs _ hb hd
  refine Oper.wp_mono ?_ (step i o b u hik ho hi hs (fun t ht=>hb t (noDst_at ht)) (fun j hj=>by
   obtain⟨e,he,h4,hon⟩:=need_at hj
   have:=hd e he h4
   rwa[hon]at this))
  rintro b' u' ⟨v,h1,h2,h3,h4⟩
  refine⟨v,h1,h2,h3,?_⟩
  have e:left nod (fun k=>if k=i then v else got ops b k) i=if nod i then undef else v:=by
   unfold left
   simp
  rw[e]
  exact h4
 ·intro b u h1 h2 h3 h4 h5
  have:=last (got ops b) u h4 h5
  rwa[←laid_all hsz h1 h2 h3]at this
 ·simp[Array.getD_eq_getD_getElem?,Array.getElem?_replicate];split<;>rfl
 ·exact Nat.le_trans List.countP_le_length (by simp)
 ·intro j o _ hj
  have:(Array.replicate ops.size false).getD j false=false:=by simp[Array.getD_eq_getD_getElem?,Array.getElem?_replicate];split<;>rfl
  rw[this]at hj;cases hj
 ·intro j hj
  have:(Array.replicate ops.size false).getD j false=false:=by simp[Array.getD_eq_getD_getElem?,Array.getElem?_replicate];split<;>rfl
  rw[this]at hj;cases hj
end
end
section
set_option maxRecDepth 100000
def segR(b z:Int):Bool:=decide (b+z≤4294967296)
def clampN(n:Int):Int:=if n<1 then 1 else if 16<n then 16 else n
theorem clampN_lo(n:Int):1≤clampN n:=by unfold clampN;split<;>(try split)<;>omega
theorem clampN_hi(n:Int):clampN n≤16:=by unfold clampN;split<;>(try split)<;>omega
def mayB(r q x:Bool)(what:Int):Bool:=if what=0 then r else if what=1 then q else if what=2 then x else false
def fitB(b z off n:Int):Bool:=segR b z&&decide (off+clampN n≤z)
def atE(b z:Int)(r q x:Bool)(off n what:Int):Int:=if mayB r q x what then if fitB b z off n then 0 else 24 else 25
def atV(b z:Int)(r q x:Bool)(off n what:Int):Int:=if mayB r q x what&&fitB b z off n then b+off else 0
theorem fit_lt(b z off n:Int)(h:fitB b z off n=true):off<z∧b+off<4294967296∧off+clampN n≤z∧b+z≤4294967296:=by
 unfold fitB segR at h
 simp only[Bool.and_eq_true,decide_eq_true_eq]at h
 have:=clampN_lo n
 omega
end
section
open Go.ChangeShapes Go.WideShapes Go.ChangeAt Go.RowKit
set_option maxRecDepth 100000
theorem rsegright_any(b z:Int)(r q x:Bool)(b0:0≤b)(b1:b<4294967296)(z0:0≤z)(z1:z<4294967296)(w:World):Calls Tryz.prog 146 #[.agg #[.int .u32 b,.int .u32 z,.bool r,.bool q,.bool x]] w fun e w'=>e=.returned (.bool (segR b z))∧Below w.heap.size w w':=by
 go_enter Tryz.func146,Tryz.ntmps146
 go_wp2
 go_ret
 exact⟨rfl,below_last (Below.refl _ _) _⟩
set_option maxHeartbeats 8000000
theorem rat_any(b z:Int)(r q x:Bool)(off n what:Int)(b0:0≤b)(b1:b<4294967296)(z0:0≤z)(z1:z<4294967296)(o0:0≤off)(o1:off<4294967296)(w:World):Calls Tryz.prog 132 #[.agg #[.int .u32 b,.int .u32 z,.bool r,.bool q,.bool x],.int .u32 off,.int .i64 n,.int .i64 what] w fun e w'=>e=.returned (.tuple #[.int .u32 (atV b z r q x off n what),.int .i64 (atE b z r q x off n what)])∧Below w.heap.size w w':=by
 have hn:n<1∨(1≤n∧n≤16)∨16<n:=by omega
 have c0:=clampN_lo n
 have c1:=clampN_hi n
 have hw:what=0∨what=1∨what=2∨((what==0)=false∧(what==1)=false∧(what==2)=false):=by
  simp only[beq_eq_false_iff_ne,ne_eq];omega
 have hno:mayB r q x what=false→atV b z r q x off n what=0∧atE b z r q x off n what=25:=by
  intro h;unfold atV atE;rw[h];exact⟨rfl,rfl⟩
 have hyes:mayB r q x what=true→fitB b z off n=true→atV b z r q x off n what=b+off∧atE b z r q x off n what=0:=by
  intro h h2;unfold atV atE;rw[h,h2];exact⟨rfl,rfl⟩
 have hun:mayB r q x what=true→fitB b z off n=false→atV b z r q x off n what=0∧atE b z r q x off n what=24:=by
  intro h h2;unfold atV atE;rw[h,h2];exact⟨rfl,rfl⟩
 have hcl:clampN n=(if n<1 then 1 else if 16<n then 16 else n):=rfl
 have hother:(what==0)=false→(what==1)=false→(what==2)=false→mayB r q x what=false:=by
  intro h1 h2 h3;unfold mayB;rw[if_neg (by simpa using h1),if_neg (by simpa using h2),if_neg (by simpa using h3)]
 have hf:(segR b z=false∧fitB b z off n=false)∨(segR b z=true∧z<off+clampN n∧fitB b z off n=false)∨(segR b z=true∧off+clampN n≤z∧fitB b z off n=true∧b+off<4294967296):=by
  unfold fitB
  cases hs:segR b z
  ·exact .inl ⟨rfl,rfl⟩
  ·unfold segR at hs
   simp only[decide_eq_true_eq]at hs
   by_cases h:off+clampN n≤z
   ·exact .inr (.inr ⟨rfl,h,by rw[decide_eq_true h];rfl,by omega⟩)
   ·exact .inr (.inl ⟨rfl,by omega,by rw[decide_eq_false h];rfl⟩)
 rcases hn with hn|⟨hn,hn'⟩|hn
 all_goals
  rw[hcl]at hf
  first|rw[if_pos hn]at hf|(rw[if_neg (by omega),if_neg (by omega)]at hf)|(rw[if_neg (by omega),if_pos hn]at hf)
  clear hcl c0 c1
  rcases hw with rfl|rfl|rfl|⟨h0,h1,h2⟩
  ·cases r
   ·obtain⟨hv,he⟩:=hno rfl
    have hV:=Lib.hid hv
    have hE:=Lib.hid he
    clear hno hyes hun hother hv he hf
    go_enter Tryz.func132,Tryz.ntmps132
    go_wp2_with (go_at_call 146;refine(rsegright_any b z _ _ _ b0 b1 z0 z1 _).mono ?_;rintro e w1 ⟨rfl,hb1⟩;obtain⟨hc,hz⟩:=bcell hb1)
    go_ret2
    exact⟨by rw[hV.out,hE.out];rfl,by first|exact below_last (Below.refl _ _) _|exact below_next (Below.refl _ _) hb1⟩
   ·rcases hf with⟨hs,hf⟩|⟨hs,hl,hf⟩|⟨hs,hl,hf,hl2⟩
    ·obtain⟨hv,he⟩:=hun rfl hf
     have hV:=Lib.hid hv
     have hE:=Lib.hid he
     clear hno hyes hun hother hv he hf
     go_enter Tryz.func132,Tryz.ntmps132
     go_wp2_with (go_at_call 146;refine(rsegright_any b z _ _ _ b0 b1 z0 z1 _).mono ?_;rintro e w1 ⟨rfl,hb1⟩;obtain⟨hc,hz⟩:=bcell hb1)
     go_ret2
     exact⟨by rw[hV.out,hE.out];rfl,by first|exact below_last (Below.refl _ _) _|exact below_next (Below.refl _ _) hb1⟩
    ·obtain⟨hv,he⟩:=hun rfl hf
     have hV:=Lib.hid hv
     have hE:=Lib.hid he
     clear hno hyes hun hother hv he hf
     go_enter Tryz.func132,Tryz.ntmps132
     go_wp2_with (go_at_call 146;refine(rsegright_any b z _ _ _ b0 b1 z0 z1 _).mono ?_;rintro e w1 ⟨rfl,hb1⟩;obtain⟨hc,hz⟩:=bcell hb1)
     go_ret2
     exact⟨by rw[hV.out,hE.out];rfl,by first|exact below_last (Below.refl _ _) _|exact below_next (Below.refl _ _) hb1⟩
    ·obtain⟨hv,he⟩:=hyes rfl hf
     have hV:=Lib.hid hv
     have hE:=Lib.hid he
     clear hno hyes hun hother hv he hf
     go_enter Tryz.func132,Tryz.ntmps132
     go_wp2_with (go_at_call 146;refine(rsegright_any b z _ _ _ b0 b1 z0 z1 _).mono ?_;rintro e w1 ⟨rfl,hb1⟩;obtain⟨hc,hz⟩:=bcell hb1)
     go_ret2
     exact⟨by rw[hV.out,hE.out];rfl,by first|exact below_last (Below.refl _ _) _|exact below_next (Below.refl _ _) hb1⟩
  ·cases q
   ·obtain⟨hv,he⟩:=hno rfl
    have hV:=Lib.hid hv
    have hE:=Lib.hid he
    clear hno hyes hun hother hv he hf
    go_enter Tryz.func132,Tryz.ntmps132
    go_wp2_with (go_at_call 146;refine(rsegright_any b z _ _ _ b0 b1 z0 z1 _).mono ?_;rintro e w1 ⟨rfl,hb1⟩;obtain⟨hc,hz⟩:=bcell hb1)
    go_ret2
    exact⟨by rw[hV.out,hE.out];rfl,by first|exact below_last (Below.refl _ _) _|exact below_next (Below.refl _ _) hb1⟩
   ·rcases hf with⟨hs,hf⟩|⟨hs,hl,hf⟩|⟨hs,hl,hf,hl2⟩
    ·obtain⟨hv,he⟩:=hun rfl hf
     have hV:=Lib.hid hv
     have hE:=Lib.hid he
     clear hno hyes hun hother hv he hf
     go_enter Tryz.func132,Tryz.ntmps132
     go_wp2_with (go_at_call 146;refine(rsegright_any b z _ _ _ b0 b1 z0 z1 _).mono ?_;rintro e w1 ⟨rfl,hb1⟩;obtain⟨hc,hz⟩:=bcell hb1)
     go_ret2
     exact⟨by rw[hV.out,hE.out];rfl,by first|exact below_last (Below.refl _ _) _|exact below_next (Below.refl _ _) hb1⟩
    ·obtain⟨hv,he⟩:=hun rfl hf
     have hV:=Lib.hid hv
     have hE:=Lib.hid he
     clear hno hyes hun hother hv he hf
     go_enter Tryz.func132,Tryz.ntmps132
     go_wp2_with (go_at_call 146;refine(rsegright_any b z _ _ _ b0 b1 z0 z1 _).mono ?_;rintro e w1 ⟨rfl,hb1⟩;obtain⟨hc,hz⟩:=bcell hb1)
     go_ret2
     exact⟨by rw[hV.out,hE.out];rfl,by first|exact below_last (Below.refl _ _) _|exact below_next (Below.refl _ _) hb1⟩
    ·obtain⟨hv,he⟩:=hyes rfl hf
     have hV:=Lib.hid hv
     have hE:=Lib.hid he
     clear hno hyes hun hother hv he hf
     go_enter Tryz.func132,Tryz.ntmps132
     go_wp2_with (go_at_call 146;refine(rsegright_any b z _ _ _ b0 b1 z0 z1 _).mono ?_;rintro e w1 ⟨rfl,hb1⟩;obtain⟨hc,hz⟩:=bcell hb1)
     go_ret2
     exact⟨by rw[hV.out,hE.out];rfl,by first|exact below_last (Below.refl _ _) _|exact below_next (Below.refl _ _) hb1⟩
  ·cases x
   ·obtain⟨hv,he⟩:=hno rfl
    have hV:=Lib.hid hv
    have hE:=Lib.hid he
    clear hno hyes hun hother hv he hf
    go_enter Tryz.func132,Tryz.ntmps132
    go_wp2_with (go_at_call 146;refine(rsegright_any b z _ _ _ b0 b1 z0 z1 _).mono ?_;rintro e w1 ⟨rfl,hb1⟩;obtain⟨hc,hz⟩:=bcell hb1)
    go_ret2
    exact⟨by rw[hV.out,hE.out];rfl,by first|exact below_last (Below.refl _ _) _|exact below_next (Below.refl _ _) hb1⟩
   ·rcases hf with⟨hs,hf⟩|⟨hs,hl,hf⟩|⟨hs,hl,hf,hl2⟩
    ·obtain⟨hv,he⟩:=hun rfl hf
     have hV:=Lib.hid hv
     have hE:=Lib.hid he
     clear hno hyes hun hother hv he hf
     go_enter Tryz.func132,Tryz.ntmps132
     go_wp2_with (go_at_call 146;refine(rsegright_any b z _ _ _ b0 b1 z0 z1 _).mono ?_;rintro e w1 ⟨rfl,hb1⟩;obtain⟨hc,hz⟩:=bcell hb1)
     go_ret2
     exact⟨by rw[hV.out,hE.out];rfl,by first|exact below_last (Below.refl _ _) _|exact below_next (Below.refl _ _) hb1⟩
    ·obtain⟨hv,he⟩:=hun rfl hf
     have hV:=Lib.hid hv
     have hE:=Lib.hid he
     clear hno hyes hun hother hv he hf
     go_enter Tryz.func132,Tryz.ntmps132
     go_wp2_with (go_at_call 146;refine(rsegright_any b z _ _ _ b0 b1 z0 z1 _).mono ?_;rintro e w1 ⟨rfl,hb1⟩;obtain⟨hc,hz⟩:=bcell hb1)
     go_ret2
     exact⟨by rw[hV.out,hE.out];rfl,by first|exact below_last (Below.refl _ _) _|exact below_next (Below.refl _ _) hb1⟩
    ·obtain⟨hv,he⟩:=hyes rfl hf
     have hV:=Lib.hid hv
     have hE:=Lib.hid he
     clear hno hyes hun hother hv he hf
     go_enter Tryz.func132,Tryz.ntmps132
     go_wp2_with (go_at_call 146;refine(rsegright_any b z _ _ _ b0 b1 z0 z1 _).mono ?_;rintro e w1 ⟨rfl,hb1⟩;obtain⟨hc,hz⟩:=bcell hb1)
     go_ret2
     exact⟨by rw[hV.out,hE.out];rfl,by first|exact below_last (Below.refl _ _) _|exact below_next (Below.refl _ _) hb1⟩
  ·obtain⟨hv,he⟩:=hno (hother h0 h1 h2)
   have hV:=Lib.hid hv
   have hE:=Lib.hid he
   clear hno hyes hun hother hv he hf
   go_enter Tryz.func132,Tryz.ntmps132
   go_wp2_with (go_at_call 146;refine(rsegright_any b z _ _ _ b0 b1 z0 z1 _).mono ?_;rintro e w1 ⟨rfl,hb1⟩;obtain⟨hc,hz⟩:=bcell hb1)
   go_ret2
   exact⟨by rw[hV.out,hE.out];rfl,by first|exact below_last (Below.refl _ _) _|exact below_next (Below.refl _ _) hb1⟩
end
section
open Go.RowKit
set_option maxRecDepth 100000
structure Sg where
 b:Int
 z:Int
 r:Bool
 q:Bool
 x:Bool
def Sg.ok(s:Sg):Prop:=(0≤s.b∧s.b<4294967296)∧(0≤s.z∧s.z<4294967296)
instance (s:Sg):Decidable s.ok:=by unfold Sg.ok;infer_instance
def widN(size:Int):Nat:=if size=1 then 1 else if size=2 then 2 else if size=8 then 8 else 4
theorem widN_lo(size:Int):1≤widN size:=by unfold widN;split<;>(try split)<;>(try split)<;>omega
theorem widN_hi(size:Int):widN size≤8:=by unfold widN;split<;>(try split)<;>(try split)<;>omega
def byteOf(v:Int)(i:Nat):Int:=v/256^i%256
theorem byteOf_ok(v:Int)(i:Nat):0≤byteOf v i∧byteOf v i<256:=by unfold byteOf;omega
def stE(d:Sg)(off size:Int):Int:=atE d.b d.z d.r d.q d.x off (widN size) 1
def stG(g:Int→Int)(d:Sg)(off size v:Int):Int→Int:=if stE d off size=0 then writeG g (d.b+off) (byteOf v) (widN size)else g
def stP(pg:Int→Bool)(d:Sg)(off size:Int):Int→Bool:=if stE d off size=0 then writeP pg (d.b+off) (widN size)else pg
def ldE(d:Sg)(off size:Int):Int:=atE d.b d.z d.r d.q d.x off (widN size) 0
def leV(g:Int→Int)(a:Int):Nat→Int
 |0=>0
 |n+1=>leV g a n+g (place a n)*256^n
def ldV(g:Int→Int)(d:Sg)(off size:Int):Int:=if ldE d off size=0 then leV g (d.b+off) (widN size)else 0
theorem writeG_far(g:Int→Int)(a:Int)(bs:Nat→Int)(q:Int):∀n:Nat,(∀i,i<n→q≠place a i)→writeG g a bs n q=g q
 |0,_=>rfl
 |n+1,h=>by
  unfold writeG setG
  rw[if_neg (h n (by omega))]
  exact writeG_far g a bs q n fun i hi=>h i (by omega)
theorem writeG_hit(g:Int→Int)(a:Int)(bs:Nat→Int):∀(n i:Nat),n≤4294967296→i<n→writeG g a bs n (place a i)=bs i
 |0,_,_,h=>by omega
 |n+1,i,hn,h=>by
  unfold writeG setG
  by_cases e:i=n
  ·subst e;rw[if_pos rfl]
  ·rw[if_neg (fun h2=>e (by unfold place at h2;omega))]
   exact writeG_hit g a bs n i (by omega) (by omega)
end
section
open Go
set_option maxRecDepth 100000
theorem or_shift(q m k:Nat)(h:m<2^k):(q*2^k) ||| m=q*2^k+m:=by
 rw[←Nat.shiftLeft_eq,←Nat.shiftLeft_add_eq_or_of_lt h]
end
section
open Go.ChangeShapes Go.WideShapes Go.ChangeAt Go.RowKit
set_option maxRecDepth 100000
theorem r1one_any(b:Bool)(w:World):Calls Tryz.prog 133 #[.bool b] w fun e w'=>e=.returned (.int .u64 (b.toNat))∧w=w':=by
 cases b
 all_goals
  go_enter Tryz.func133,Tryz.ntmps133
  go_wp2
  go_ret
  exact⟨by simp,rfl⟩
theorem rbytes_any(n:Int)(w:World):Calls Tryz.prog 130 #[.int .i64 n] w fun e w'=>e=.returned (.int .i64 (byt n))∧w=w':=by
 by_cases h:n≤1
 ·go_enter Tryz.func130,Tryz.ntmps130
  go_wp2
  go_ret
  exact⟨by rw[byt,if_pos (by omega)];rfl,rfl⟩
 ·by_cases h4:n≤3
  all_goals
   go_enter Tryz.func130,Tryz.ntmps130
   go_wp2
   go_ret
   exact⟨by rw[byt,if_neg (by omega)];first|rw[if_pos (by omega)];rfl|rw[if_neg (by omega)];rfl,rfl⟩
theorem rtop_any(n:Int)(w:World):Calls Tryz.prog 104 #[.int .i64 n] w fun e w'=>e=.returned (.int .u32 (tp n))∧w=w':=by
 have hl:=byt_lo n
 have hh:=byt_hi n
 go_enter Tryz.func104,Tryz.ntmps104
 go_wp2_with (go_at_call 130;refine(rbytes_any _ _).mono ?_;rintro e w' ⟨rfl,rfl⟩)
 go_ret
 exact⟨by rw[←tp_pow];rfl,rfl⟩
theorem rcut_any(v n:Int)(w:World)(h0:0≤v)(h1:v<4294967296):Calls Tryz.prog 103 #[.int .u32 v,.int .i64 n] w fun e w'=>e=.returned (.int .u32 (cut v n))∧w=w':=by
 have hl:=tp_lo n
 have hh:=tp_hi n
 have hE:=Lib.hid (rcut_eq v n h0 h1)
 go_enter Tryz.func103,Tryz.ntmps103
 go_wp2_with (go_at_call 104;refine(rtop_any _ _).mono ?_;rintro e w' ⟨rfl,rfl⟩)
 go_ret
 exact⟨by rw[←hE.out];rfl,rfl⟩
attribute [local go_sem] signed_u32 max_u32
theorem rsigned_any(v n:Int)(w:World)(h0:0≤v)(h1:v<4294967296):Calls Tryz.prog 77 #[.int .u32 v,.int .i64 n] w fun e w'=>e=.returned (.int .i32 (sgn v n))∧w=w':=by
 have hl:=tp_lo n
 have hh:=tp_hi n
 have c0:=cut_lo v n
 have c1:=cut_hi v n
 have ht:=tp_ne (cut v n) n c0 c1
 cases hx:hi (cut v n) n
 ·have hE:=Lib.hid (rsgn_neg v n hx)
  rw[hx]at ht
  clear hx
  go_enter Tryz.func77,Tryz.ntmps77
  go_wp2_with (first|(go_at_call 104;refine(rtop_any _ _).mono ?_;rintro e w' ⟨rfl,rfl⟩)|(go_at_call 103;refine(rcut_any _ _ _ h0 h1).mono ?_;rintro e w' ⟨rfl,rfl⟩))
  go_ret
  exact⟨by rw[←hE.out];rfl,rfl⟩
 ·have hE:=Lib.hid (rsgn_pos v n hx)
  rw[hx]at ht
  clear hx
  go_enter Tryz.func77,Tryz.ntmps77
  go_wp2_with (first|(go_at_call 104;refine(rtop_any _ _).mono ?_;rintro e w' ⟨rfl,rfl⟩)|(go_at_call 103;refine(rcut_any _ _ _ h0 h1).mono ?_;rintro e w' ⟨rfl,rfl⟩))
  go_ret
  exact⟨by rw[←hE.out];rfl,rfl⟩
set_option maxHeartbeats 4000000
theorem rparity_any(v:Int)(w:World)(h0:0≤v)(h1:v<4294967296):Calls Tryz.prog 134 #[.int .u32 v] w fun e w'=>e=.returned (.bool (par v))∧w=w':=by
 have hE:=Lib.hid (ones_par v)
 go_enter Tryz.func134,Tryz.ntmps134
 go_wp2
 go_loop [3,4] (fun n i=>∃k:Nat,k≤8∧i=.int .i64 k∧n=.int .i64 (ones v k)) (fun _ i=>8-(intOf i).toNat)
 case atStart=>exact⟨0,by omega,rfl,rfl⟩
 case round=>
  obtain⟨k,hk,rfl,rfl⟩:=hrel
  have o0:=ones_lo v k
  have o1:=ones_hi v k
  by_cases hlt:k<8
  ·have b0:=bit_div_lo v k h0 h1
   have b1:=bit_div_hi v k h0 h1
   have hB:=Lib.hid (bit_div v k h0 h1)
   go_wp2
   go_round
   case rel=>exact⟨k+1,by omega,by go_num,by rw[hB.out];rfl⟩
   case measure=>simp[intOf];omega
  ·obtain rfl:k=8:=by omega
   go_wp2
   go_ret
   exact⟨by rw[←hE.out];rfl,rfl⟩
theorem rlogic_any(v n:Int)(w:World)(h0:0≤v)(h1:v<4294967296):Calls Tryz.prog 109 #[.int .u32 v,.int .i64 n] w fun e w'=>
  e=.returned (.tuple #[.int .u32 (cut v n),.agg #[.bool false,.bool (par (cut v n)),.bool (zer (cut v n)),.bool (hi (cut v n) n),.bool false,.bool false]])∧Below w.heap.size w w':=by
 have b0:=cut_lo v n
 have b1:=cut_hi v n
 have hE:=tp_ne (cut v n) n b0 b1
 go_enter Tryz.func109,Tryz.ntmps109
 go_wp2_with (first|(go_at_call 103;refine(rcut_any _ _ _ (by assumption) (by assumption)).mono ?_;rintro e w' ⟨rfl,rfl⟩)|(go_at_call 104;refine(rtop_any _ _).mono ?_;rintro e w' ⟨rfl,rfl⟩)|(go_at_call 134;refine(rparity_any _ _ (by assumption) (by assumption)).mono ?_;rintro e w' ⟨rfl,rfl⟩))
 refine bodyPost_ret (v:=.tuple #[.int .u32 (cut v n),.agg #[.bool false,.bool (par (cut v n)),.bool (zer (cut v n)),.bool (hi (cut v n) n),.bool false,.bool false]]) (by simp[results,Tryz.results109,go_sem,zer]) rfl ⟨rfl,?_⟩
 exact(Below.refl _ _).alloc (Nat.le_refl _) _
end
end Go.Proofs.YtmdncgfheeijaaaGreat
