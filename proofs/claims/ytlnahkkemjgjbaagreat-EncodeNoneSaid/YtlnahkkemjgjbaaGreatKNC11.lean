import Derived.Deep.DeepCutAuto
import Derived.KernelRfl
import Derived.Test.YtlnahkkemjgjbaaGreatKNB11
import Derived.Test.YtlnahkkemjgjbaaGreatKNModrm
import Derived.Test.YtlnahkkemjgjbaaGreatKNX
namespace Go.Proofs.YtlnahkkemjgjbaaGreat
open Go.ChangeShapes Go.WideShapes Go.ChangeAt Go.RowKit
section
attribute [local go_sem] isSome_setCell
theorem put_len (reg:Int) (o:Opd):(putF reg o).length ≤ 6:=by
  have h4:∀ l:List Int,l=addB o→l.length ≤ 4:=fun l h=>by
    rw [h]
    unfold addB
    split
    · simp [bytes4]
    · split
      · simp
      · split <;> simp [bytes4]
  have h4:=h4 _ rfl
  unfold putF
  split
  · simp
  · split <;> simp <;> omega
set_option maxRecDepth 100000
set_option maxHeartbeats 4000000
theorem placed_any (o reg:Int) (rm:Opd) (d0:0 ≤ rm.disp) (d1:rm.disp < 4294967296) (T:List Int) (hT:T.length ≤ 100) (v:Value) (w:World) (hs:Slc .u8 w v T.length (lst T)):Calls Tryz.prog 37 #[.int .i64 o,.int .i64 reg,opV rm,v] w (BytesR w (placedF o reg rm T)):=by
  obtain ⟨a0,c0,rfl⟩:=hs.len
  have HSl:=Lib.hid hs
  have HSp:=Lib.hid (spelled_any o)
  have hC:=fun P (hP:P.length ≤ 6) v w h=>concat_any [spelledF o,P,T] (by have:=spelled_len o;simp;omega) (by simp) (by simp) v w h
  have e:∀ P,[spelledF o,P,T].flatten=spelledF o ++ (P ++ T):=fun P=>by simp
  have HC:=Lib.hid (fun P hP v w h=>by have:=hC P hP v w h;rwa [e] at this)
  have hdp:(plainO rm).disp=rm.disp:=by unfold plainO;split <;> rfl
  have HPut:=mrput_any reg (plainO rm) (by rw [hdp];exact d0) (by rw [hdp];exact d1)
  unfold placedF
  obtain ⟨P,hP⟩:∃ P,putF reg (plainO rm)=P:=⟨_,rfl⟩
  have hP6:P.length ≤ 6:=by rw [← hP];exact put_len _ _
  have HPl:=Lib.hid (HC.out P hP6)
  rw [hP] at HPut ⊢
  clear hC e hs hT hdp d0 d1 hP hP6 HC
  obtain ⟨k,r,ba,ix,sc,di⟩:=rm
  obtain ⟨k',hk'⟩:∃ k',k'=if k=2 ∨ k=5 then 1 else k:=⟨_,rfl⟩
  have hpl:plainO ⟨k,r,ba,ix,sc,di⟩=⟨k',r,ba,ix,sc,di⟩:=by
    unfold plainO
    rw [hk']
    split <;> rfl
  rw [hpl] at HPut ⊢
  clear hpl
  obtain ⟨ok,hok⟩:∃ ok:Bool,ok=decide (putOk reg ⟨k',r,ba,ix,sc,di⟩):=⟨_,rfl⟩
  unfold opV at HPut ⊢
  have hk3:(k=2∧k'=1) ∨ (k=5∧k'=1) ∨ ((k == 2)=false∧(k == 5)=false∧k'=k):=by
    by_cases h2:k=2
    · exact .inl ⟨h2,by rw [hk',if_pos (.inl h2)]⟩
    · by_cases h5:k=5
      · exact .inr (.inl ⟨h5,by rw [hk',if_pos (.inr h5)]⟩)
      · exact .inr (.inr ⟨by simpa using h2,by simpa using h5,by rw [hk',if_neg (fun h=>h.elim h2 h5)]⟩)
  clear hk'
  cases ok with
  | true =>
    have hO:=of_decide_eq_true hok.symm
    simp only [if_pos hO] at HPut ⊢
    have HPut:=Lib.hid HPut
    clear hok hO
    rcases hk3 with ⟨rfl,rfl⟩ | ⟨rfl,rfl⟩ | ⟨n2,n5,rfl⟩
    all_goals
      go_enter Tryz.func37,Tryz.ntmps37
      go_wp2_with fail
      refine (HPut.out _).mono ?_
      rintro e w1 ⟨v1,rfl,h1,b1⟩
      obtain ⟨a1,c1,rfl⟩:=h1.len
      have H1:=Lib.hid h1
      have HB1:=Lib.hid (below_step (w:=w) (by repeat (first | exact Below.refl _ _ | (with_reducible refine Below.setCell ?_ (Nat.le_refl _) _) | (with_reducible refine below_last ?_ _))) b1)
      clear h1 b1
      go_wp2_with fail
      refine (HSp.out _).mono ?_
      rintro e w2 ⟨v2,rfl,h2,b2⟩
      obtain ⟨a2,c2,rfl⟩:=h2.len
      have HR:=Lib.hid (brows_3 w2 30 _ _ _ _ _ _ h2 (H1.out.below b2) ((HSl.out.below HB1.out).below b2))
      have HB2:=Lib.hid (below_step HB1.out b2)
      clear h2 b2
      go_wp2_with fail
      refine (HPl.out _ _ HR.out).mono ?_
      rintro e w3 ⟨v3,rfl,h3,b3⟩
      have H3:=Lib.hid h3
      have HB3:=Lib.hid (below_step HB2.out (below_first b3))
      clear h3 b3
      go_wp2_with fail
      go_returns
      exact ⟨_,rfl,H3.out,HB3.out⟩
  | false =>
    have hO:=of_decide_eq_false hok.symm
    simp only [if_neg hO] at HPut ⊢
    have HPut:=Lib.hid HPut
    clear hok hO
    rcases hk3 with ⟨rfl,rfl⟩ | ⟨rfl,rfl⟩ | ⟨n2,n5,rfl⟩
    all_goals
      go_enter Tryz.func37,Tryz.ntmps37
      go_wp2_with fail
      refine (HPut.out _).mono ?_
      rintro e w1 ⟨v1,rfl,h1,b1⟩
      obtain ⟨a1,c1,rfl⟩:=h1.len
      have H1:=Lib.hid h1
      have HB1:=Lib.hid (below_step (w:=w) (by repeat (first | exact Below.refl _ _ | (with_reducible refine Below.setCell ?_ (Nat.le_refl _) _) | (with_reducible refine below_last ?_ _))) b1)
      clear h1 b1
      go_wp2_with fail
      go_returns
      exact ⟨_,rfl,.inl ⟨rfl,rfl⟩,HB1.out⟩
end
inductive Pm where
  | val (v:Value)
  | bytes (l:List Int)
  | rows (L:List (List Int))
def pv:Pm→Value→World→Prop
  | .val x,v,_=>v=x
  | .bytes l,v,u=>Slc .u8 u v l.length (lst l)
  | .rows L,v,u=>BRows u v L
theorem pv_stays {p:Pm} {v:Value} {u u':World} (h:pv p v u) (g:Below u.heap.size u u'):pv p v u':=by
  cases p with
  | val x=>exact h
  | bytes l=>exact Slc.below h g
  | rows L=>exact BRows.below h g
theorem BRows.is {w:World} {v:Value} {LL:List (List Int)} (h:BRows w v LL):∃ a n c,v=.slice a n c:=by
  rcases h with ⟨rfl,_⟩ | ⟨R,cap,rfl,_⟩
  · exact ⟨_,_,_,rfl⟩
  · exact ⟨_,_,_,rfl⟩
section
variable {Q:Exit→Act→World→Prop} {W:World} {u:World} {b:Act} {o:Oper}
theorem dr_val {v:Value} {p:Value→World→Prop} (hr:(execOp b.eval o).run Tryz.prog u=.ok (.value v) u) (hinv:Below W.heap.size W u) (hv:p v u):o.wp Tryz.prog b u (fun b' u'=>∃ v,b'=b.put o.dst v∧Below W.heap.size W u'∧Below u.heap.size u u'∧p v u') Q :=
  wp_val hr ⟨_,rfl,hinv,Below.refl _ _,hv⟩
theorem dr_bytes {f:FuncId} {args:Array Value} {l:List Int} (hr:(execOp b.eval o).run Tryz.prog u=.ok (.enter f args) u) (hc:Calls Tryz.prog f args u (BytesR u l)) (hinv:Below W.heap.size W u):o.wp Tryz.prog b u (fun b' u'=>∃ v,b'=b.put o.dst v∧Below W.heap.size W u'∧Below u.heap.size u u'∧pv (.bytes l) v u') Q :=
  wp_call hr (hc.mono fun e u' h=>by
    obtain ⟨v,he,hs,hb⟩:=h
    exact ⟨v,he,v,rfl,below_step hinv hb,hb,hs⟩)
theorem dr_load (t:TypeId) (x:Operand) (ho:o.op=.load t x) {v:Value} (p:Value) (hx:b.eval x=p) (hl:(Instr.loadAt t p).run Tryz.prog u=.ok v u):(execOp b.eval o).run Tryz.prog u=.ok (.value v) u:=by
  unfold execOp
  simp only [ho,hx,Sem.run_bind,hl,Result.andThen_ok,Sem.run_pure]
def Slcs (w:World):List Value→List (List Int)→Prop
  | [],[]=>True
  | v :: vs,l :: ls=>Slc .u8 w v l.length (lst l)∧Slcs w vs ls
  | _,_=>False
theorem slcs_at {w:World}:∀ {vs:List Value} {LL:List (List Int)},Slcs w vs LL→vs.length=LL.length∧∀ j,j < LL.length→∃ x,vs[j]?=some x∧Slc .u8 w x (LL.getD j []).length (lst (LL.getD j []))
  | [],[],_=>⟨rfl,fun j hj=>absurd hj (Nat.not_lt_zero _)⟩
  | v :: vs,l :: ls,h=>by
    obtain ⟨h1,h2⟩:=slcs_at h.2
    refine ⟨by simp [h1],fun j hj=>?_⟩
    cases j with
    | zero=>exact ⟨v,rfl,h.1⟩
    | succ j=>exact h2 j (by simpa using hj)
  | [],_ :: _,h=>h.elim
  | _ :: _,[],h=>h.elim
theorem dr_rows {T:TypeId} {vs:List Value} {LL:List (List Int)} {n:Nat} (hs:Slcs u vs LL) (hn:n=LL.length) (hr:(execOp b.eval o).run Tryz.prog u=.ok (.value (.slice (some ⟨u.heap.size,0,none⟩) n n)) (u.alloc (.cells vs.toArray T))) (hinv:Below W.heap.size W u):o.wp Tryz.prog b u (fun b' u'=>∃ v,b'=b.put o.dst v∧Below W.heap.size W u'∧Below u.heap.size u u'∧pv (.rows LL) v u') Q:=by
  obtain ⟨_,h2⟩:=slcs_at hs
  exact wp_val hr ⟨_,rfl,below_last hinv _,below_last (Below.refl _ _) _,brows_made u vs.toArray T LL n hn (fun j hj=>by
    obtain ⟨x,hx,hq⟩:=h2 j hj
    exact ⟨x,by simpa using hx,hq⟩)⟩
end
theorem tV (b:Act) (s:Nat) (v:Value) {q:Prop} (h:q→b.tmps.getD s undef=v):q→b.tmps.getD s undef=v:=h
theorem tQ (b:Act) (R s k:Nat) {q:Prop} (h:q→b.tmps.getD s undef=.pointer (some ⟨R,k,none⟩)):q→b.tmps.getD s undef=.pointer (some ⟨R,k,none⟩):=h
theorem tB (b:Act) (u:World) (s:Nat) (l:List Int) {q:Prop} (h:q→Slc .u8 u (b.tmps.getD s undef) l.length (lst l)):q→Slc .u8 u (b.tmps.getD s undef) l.length (lst l):=h
theorem tW (b:Act) (u:World) (s:Nat) (l:List (List Int)) {q:Prop} (h:q→BRows u (b.tmps.getD s undef) l):q→BRows u (b.tmps.getD s undef) l:=h
theorem dr_region {ops:Array Oper} {Q:Exit→Act→World→Prop} {id:Nat} {a:Act} {W:World} (tab:List Pm) (hfit:fitDraw ops (eyes (fun _=>false) fun i=>i) a.tmps.size=true)
    (step:∀ (i:Nat) (o:Oper) (b:Act) (u:World),ops[i]?=some o→Below W.heap.size W u→b.tmps.size=a.tmps.size→(∀ t,noDst ops t=true→b.tmps.getD t undef=a.tmps.getD t undef) →
      (∀ k,need o k=true→pv (tab.getD k (.val undef)) (left (fun _=>false) (got ops b) k) u) →
      o.wp Tryz.prog b u (fun b' u'=>∃ v,b'=b.put o.dst v∧Below W.heap.size W u'∧Below u.heap.size u u'∧pv (tab.getD i (.val undef)) v u') Q)
    (fin:∀ (f:Nat→Value) u,Below W.heap.size W u→(∀ i,i < ops.size→pv (tab.getD i (.val undef)) (f i) u)→Q .normal (laid ops f a ops.size) u) :
    (Code.region id ops true).wp Tryz.prog Q a W :=
  wp_region_vals (by kernel_rfl) (fun _=>false) hfit (Below W.heap.size W) (fun u u1=>Below u.heap.size u u1) (fun i v u=>pv (tab.getD i (.val undef)) v u) (fun _ _ _ _ h g=>pv_stays h g) (fun u=>Below.refl _ u) (Below.refl _ _).drew step fin
theorem boxed (x:Ins) {w u:World} {T:TypeId} (h:Below (w.alloc (.cells (insC x) T)).heap.size (w.alloc (.cells (insC x) T)) u):u.rangeAt w.heap.size 0 (insL x):=fun j v hj=>by
  have e:(w.alloc (.cells (insC x) T)).cell? ⟨w.heap.size,0+j,none⟩=some v:=by
    rw [Nat.zero_add,World.cell?_alloc_new]
    show (insL x).toArray[j]?=_
    simpa using hj
  rw [h.cell (p:=⟨w.heap.size,0+j,none⟩) (by simp)]
  exact e
theorem box_int {u:World} {R:Nat} {x:Ins} (h:u.rangeAt R 0 (insL x)) (k:Nat) (v:Int) (hv:(insL x)[k]?=some (.int .i64 v)):(Instr.loadAt 3 (.pointer (some ⟨R,k,none⟩))).run Tryz.prog u=.ok (.int .i64 v) u:=by
  have hc:=h k _ hv
  rw [Nat.zero_add] at hc
  simp [go_sem,hc]
theorem box_u32 {u:World} {R:Nat} {x:Ins} (h:u.rangeAt R 0 (insL x)) (k:Nat) (v:Int) (hv:(insL x)[k]?=some (.int .u32 v)):(Instr.loadAt 22 (.pointer (some ⟨R,k,none⟩))).run Tryz.prog u=.ok (.int .u32 v) u:=by
  have hc:=h k _ hv
  rw [Nat.zero_add] at hc
  simp [go_sem,hc]
theorem box_ins {u:World} {R:Nat} {x:Ins} (h:u.rangeAt R 0 (insL x)):(Instr.loadAt 26 (.pointer (some ⟨R,0,none⟩))).run Tryz.prog u=.ok (insV x) u :=
  run_loadAt_mid (P:=Tryz.prog) u R 0 _ (insL x) _ h Tryz.underlying26 rfl info_ins
theorem box_a {u:World} {R:Nat} {x:Ins} (h:u.rangeAt R 0 (insL x)):(Instr.loadAt 24 (.pointer (some ⟨R,3,none⟩))).run Tryz.prog u=.ok (opV x.a) u :=
  run_loadAt_mid (P:=Tryz.prog) u R 3 _ (opL' x.a) _ (insL_a h) Tryz.underlying24 rfl info_opd1
theorem box_b {u:World} {R:Nat} {x:Ins} (h:u.rangeAt R 0 (insL x)):(Instr.loadAt 24 (.pointer (some ⟨R,9,none⟩))).run Tryz.prog u=.ok (opV x.b) u :=
  run_loadAt_mid (P:=Tryz.prog) u R 9 _ (opL' x.b) _ (insL_b h) Tryz.underlying24 rfl info_opd1
theorem or_w (c s:Int) (h0:0 ≤ c) (h1:c % 2=0) (h2:c < 65536):bits .or .i64 c (wF s)=c+wF s:=by
  have:=wF_in s
  exact i64_join 1 c (wF s) h0 (by simpa using h1) (by omega) (by simp;omega) (by omega)
theorem or_c (c k:Int) (h0:0 ≤ c) (h1:c % 16=0) (h2:c < 65536):bits .or .i64 c (k % 16)=c+k % 16 :=
  i64_join 4 c (k % 16) h0 (by simpa using h1) (by omega) (by simp;omega) (by omega)
theorem nF_le (s:Int):nF s ≤ 100:=by unfold nF;split <;> decide
theorem low_le (v:Int) (n:Nat) (h:n ≤ 100):(lowF v n).length ≤ 100:=by rw [low_len];exact h
def RowsR (w:World) (L:List (List Int)) (e:Ending) (w':World):Prop:=∃ v,e=.returned v∧BRows w' v L∧Below w.heap.size w w'
theorem or_8:∀ (r:Fin 8) (s:Fin 2),bits .or .i64 ((r.val:Int) * 8+s.val) 2=r.val * 8+s.val+2∧bits .or .i64 ((r.val:Int) * 8+s.val) 4=r.val * 8+s.val+4:=by decide
theorem or_24 (r s:Int) (r0:0 ≤ r) (r1:r < 8) (s0:s=0 ∨ s=1):bits .or .i64 (r * 8+s) 2=r * 8+s+2∧bits .or .i64 (r * 8+s) 4=r * 8+s+4:=by
  have h:=or_8 ⟨r.toNat,by omega⟩ ⟨s.toNat,by omega⟩
  simp only [Int.toNat_of_nonneg r0,Int.toNat_of_nonneg (show 0 ≤ s by omega)] at h
  exact h
def tabG (x:Ins) (r:Int) (R:Nat):List Pm:=[.val (.int .i64 (r * 8+wF x.size)),.val (.pointer (some ⟨R,9,none⟩)),.val (.pointer (some ⟨R,10,none⟩)),.val (.int .i64 (x.b.reg)),.val (.pointer (some ⟨R,3,none⟩)),.val (opV x.a),.bytes (placedF (r * 8+wF x.size) x.b.reg x.a ([])),.val (.int .i64 (r * 8+wF x.size)),.val (.int .i64 (r * 8+wF x.size+2)),.val (.pointer (some ⟨R,3,none⟩)),.val (.pointer (some ⟨R,4,none⟩)),.val (.int .i64 (x.a.reg)),.val (.pointer (some ⟨R,9,none⟩)),.val (opV x.b),.bytes (placedF (r * 8+wF x.size+2) x.a.reg x.b ([])),.val (.int .i64 (r)),.val (.pointer (some ⟨R,3,none⟩)),.val (opV x.a),.val (.pointer (some ⟨R,9,none⟩)),.val (.pointer (some ⟨R,14,none⟩)),.val (.int .u32 (x.b.disp)),.bytes (lowF x.b.disp 1),.bytes (placedF (131) r x.a (lowF x.b.disp 1)),.val (.int .i64 (r * 8+wF x.size)),.val (.int .i64 (r * 8+wF x.size+4)),.val (insV x),.bytes (lowF x.b.disp (nF x.size)),.bytes (spelledF (r * 8+wF x.size+4) ++ (lowF x.b.disp (nF x.size))),.val (.pointer (some ⟨R,2,none⟩)),.val (.int .i64 (x.size)),.val (.int .i64 (wF x.size)),.val (.int .i64 (128+wF x.size)),.val (.int .i64 (r)),.val (.pointer (some ⟨R,3,none⟩)),.val (opV x.a),.val (insV x),.bytes (lowF x.b.disp (nF x.size)),.bytes (placedF (128+wF x.size) r x.a (lowF x.b.disp (nF x.size))),.rows [placedF (r * 8+wF x.size) x.b.reg x.a ([]),placedF (r * 8+wF x.size+2) x.a.reg x.b ([]),placedF (131) r x.a (lowF x.b.disp 1),spelledF (r * 8+wF x.size+4) ++ (lowF x.b.disp (nF x.size)),placedF (128+wF x.size) r x.a (lowF x.b.disp (nF x.size))],.rows [placedF (r * 8+wF x.size) x.b.reg x.a ([]),placedF (r * 8+wF x.size+2) x.a.reg x.b ([]),placedF (131) r x.a (lowF x.b.disp 1),spelledF (r * 8+wF x.size+4) ++ (lowF x.b.disp (nF x.size)),placedF (128+wF x.size) r x.a (lowF x.b.disp (nF x.size))]]
set_option maxRecDepth 100000
set_option maxHeartbeats 4000000
theorem reckoned_any (x:Ins) (ha:0 ≤ x.a.disp∧x.a.disp < 4294967296) (hb:0 ≤ x.b.disp∧x.b.disp < 4294967296) (r:Int) (r0:0 ≤ r) (r1:r < 8) (w:World):Calls Tryz.prog 36 #[insV x,.int .i64 r] w (RowsR w ((reckC x.size r).map (fillF x))):=by
  have _:=ha;have _:=hb
  have hw:=wF_in x.size
  have h8:IntKind.i64.wrap (r * 8)=r * 8:=by rw [IntKind.wrap_i64];omega
  have hor:bits .or .i64 (r * 8) (wF x.size)=r * 8+wF x.size:=i64_join 3 (r * 8) _ (by omega) (by simp) (by omega) (by simp;omega) (by omega)
  have HO2:=Lib.hid (or_24 r _ r0 r1 hw).1
  have HO4:=Lib.hid (or_24 r _ r0 r1 hw).2
  have HW:=Lib.hid (wide_any x.size)
  have hc2:(insC x)[2]?=some (.int .i64 x.size):=rfl
  clear hw r0 r1
  unfold insV
  go_enter Tryz.func36,Tryz.ntmps36
  go_upto_region 2 with (go_at_call 35;(with_reducible refine (HW.out _).mono ?_);rintro e w' ⟨rfl,rfl⟩)
  refine dr_region (tabG x r w.heap.size) (by kernel_rfl) ?_ ?_
  · intro i o b u ho hinv hsz hbase hdep
    have hi:i < 40:=(Array.getElem?_eq_some_iff.1 ho).1
    have b1:b.tmps.getD 1 undef=(.int .i64 (r)):=hbase 1 (by kernel_rfl)
    have b2:b.tmps.getD 2 undef=(.pointer (some ⟨w.heap.size,0,none⟩)):=hbase 2 (by kernel_rfl)
    have b5:b.tmps.getD 5 undef=(.int .i64 (r * 8+wF x.size)):=hbase 5 (by kernel_rfl)
    have HX:=Lib.hid (boxed x hinv)
    clear hbase hsz
    have D0:=tV b 12 (.int .i64 (r * 8+wF x.size)) (hdep 0)
    have D1:=tQ b w.heap.size 13 9 (hdep 1)
    have D2:=tQ b w.heap.size 14 10 (hdep 2)
    have D3:=tV b 15 (.int .i64 (x.b.reg)) (hdep 3)
    have D4:=tQ b w.heap.size 16 3 (hdep 4)
    have D5:=tV b 17 (opV x.a) (hdep 5)
    have D6:=tB b u 18 (placedF (r * 8+wF x.size) x.b.reg x.a ([])) (hdep 6)
    have D7:=tV b 19 (.int .i64 (r * 8+wF x.size)) (hdep 7)
    have D8:=tV b 20 (.int .i64 (r * 8+wF x.size+2)) (hdep 8)
    have D9:=tQ b w.heap.size 21 3 (hdep 9)
    have D10:=tQ b w.heap.size 22 4 (hdep 10)
    have D11:=tV b 23 (.int .i64 (x.a.reg)) (hdep 11)
    have D12:=tQ b w.heap.size 24 9 (hdep 12)
    have D13:=tV b 25 (opV x.b) (hdep 13)
    have D14:=tB b u 26 (placedF (r * 8+wF x.size+2) x.a.reg x.b ([])) (hdep 14)
    have D15:=tV b 27 (.int .i64 (r)) (hdep 15)
    have D16:=tQ b w.heap.size 28 3 (hdep 16)
    have D17:=tV b 29 (opV x.a) (hdep 17)
    have D18:=tQ b w.heap.size 30 9 (hdep 18)
    have D19:=tQ b w.heap.size 31 14 (hdep 19)
    have D20:=tV b 32 (.int .u32 (x.b.disp)) (hdep 20)
    have D21:=tB b u 33 (lowF x.b.disp 1) (hdep 21)
    have D22:=tB b u 34 (placedF (131) r x.a (lowF x.b.disp 1)) (hdep 22)
    have D23:=tV b 35 (.int .i64 (r * 8+wF x.size)) (hdep 23)
    have D24:=tV b 36 (.int .i64 (r * 8+wF x.size+4)) (hdep 24)
    have D25:=tV b 37 (insV x) (hdep 25)
    have D26:=tB b u 38 (lowF x.b.disp (nF x.size)) (hdep 26)
    have D27:=tB b u 39 (spelledF (r * 8+wF x.size+4) ++ (lowF x.b.disp (nF x.size))) (hdep 27)
    have D28:=tQ b w.heap.size 40 2 (hdep 28)
    have D29:=tV b 41 (.int .i64 (x.size)) (hdep 29)
    have D30:=tV b 42 (.int .i64 (wF x.size)) (hdep 30)
    have D31:=tV b 43 (.int .i64 (128+wF x.size)) (hdep 31)
    have D32:=tV b 44 (.int .i64 (r)) (hdep 32)
    have D33:=tQ b w.heap.size 45 3 (hdep 33)
    have D34:=tV b 46 (opV x.a) (hdep 34)
    have D35:=tV b 47 (insV x) (hdep 35)
    have D36:=tB b u 48 (lowF x.b.disp (nF x.size)) (hdep 36)
    have D37:=tB b u 49 (placedF (128+wF x.size) r x.a (lowF x.b.disp (nF x.size))) (hdep 37)
    have D38:=tW b u 50 [placedF (r * 8+wF x.size) x.b.reg x.a ([]),placedF (r * 8+wF x.size+2) x.a.reg x.b ([]),placedF (131) r x.a (lowF x.b.disp 1),spelledF (r * 8+wF x.size+4) ++ (lowF x.b.disp (nF x.size)),placedF (128+wF x.size) r x.a (lowF x.b.disp (nF x.size))] (hdep 38)
    clear hdep
    rcases (show i=0 ∨ i=1 ∨ i=2 ∨ i=3 ∨ i=4 ∨ i=5 ∨ i=6 ∨ i=7 ∨ i=8 ∨ i=9 ∨ i=10 ∨ i=11 ∨ i=12 ∨ i=13 ∨ i=14 ∨ i=15 ∨ i=16 ∨ i=17 ∨ i=18 ∨ i=19 ∨ i=20 ∨ i=21 ∨ i=22 ∨ i=23 ∨ i=24 ∨ i=25 ∨ i=26 ∨ i=27 ∨ i=28 ∨ i=29 ∨ i=30 ∨ i=31 ∨ i=32 ∨ i=33 ∨ i=34 ∨ i=35 ∨ i=36 ∨ i=37 ∨ i=38 ∨ i=39 by omega) with rfl | rfl | rfl | rfl | rfl | rfl | rfl | rfl | rfl | rfl | rfl | rfl | rfl | rfl | rfl | rfl | rfl | rfl | rfl | rfl | rfl | rfl | rfl | rfl | rfl | rfl | rfl | rfl | rfl | rfl | rfl | rfl | rfl | rfl | rfl | rfl | rfl | rfl | rfl | rfl
    · cases ho;exact dr_val (by simp [execOp,Act.eval,b5,go_sem] <;> rfl) hinv rfl
    · cases ho;exact dr_val (by simp [execOp,Act.eval,b2,go_sem] <;> rfl) hinv rfl
    · cases ho;exact dr_val (by simp [execOp,Act.eval,D1 (by kernel_rfl),go_sem] <;> rfl) hinv rfl
    · cases ho;exact dr_val (dr_load 3 (.tmp 14) rfl _ (D2 (by kernel_rfl)) (box_int HX.out 10 _ rfl)) hinv rfl
    · cases ho;exact dr_val (by simp [execOp,Act.eval,b2,go_sem] <;> rfl) hinv rfl
    · cases ho;exact dr_val (dr_load 24 (.tmp 16) rfl _ (D4 (by kernel_rfl)) (box_a HX.out)) hinv rfl
    · cases ho;exact dr_bytes (by simp [execOp,Act.eval,D0 (by kernel_rfl),D3 (by kernel_rfl),D5 (by kernel_rfl),go_sem] <;> rfl) (placed_any _ _ _ ha.1 ha.2 _ (by decide) _ u (.inl ⟨rfl,rfl⟩)) hinv
    · cases ho;exact dr_val (by simp [execOp,Act.eval,b5,go_sem] <;> rfl) hinv rfl
    · cases ho;exact dr_val (by simp [execOp,Act.eval,D7 (by kernel_rfl),go_sem,HO2.out] <;> rfl) hinv rfl
    · cases ho;exact dr_val (by simp [execOp,Act.eval,b2,go_sem] <;> rfl) hinv rfl
    · cases ho;exact dr_val (by simp [execOp,Act.eval,D9 (by kernel_rfl),go_sem] <;> rfl) hinv rfl
    · cases ho;exact dr_val (dr_load 3 (.tmp 22) rfl _ (D10 (by kernel_rfl)) (box_int HX.out 4 _ rfl)) hinv rfl
    · cases ho;exact dr_val (by simp [execOp,Act.eval,b2,go_sem] <;> rfl) hinv rfl
    · cases ho;exact dr_val (dr_load 24 (.tmp 24) rfl _ (D12 (by kernel_rfl)) (box_b HX.out)) hinv rfl
    · cases ho;exact dr_bytes (by simp [execOp,Act.eval,D8 (by kernel_rfl),D11 (by kernel_rfl),D13 (by kernel_rfl),go_sem] <;> rfl) (placed_any _ _ _ hb.1 hb.2 _ (by decide) _ u (.inl ⟨rfl,rfl⟩)) hinv
    · cases ho;exact dr_val (by simp [execOp,Act.eval,b1,go_sem] <;> rfl) hinv rfl
    · cases ho;exact dr_val (by simp [execOp,Act.eval,b2,go_sem] <;> rfl) hinv rfl
    · cases ho;exact dr_val (dr_load 24 (.tmp 28) rfl _ (D16 (by kernel_rfl)) (box_a HX.out)) hinv rfl
    · cases ho;exact dr_val (by simp [execOp,Act.eval,b2,go_sem] <;> rfl) hinv rfl
    · cases ho;exact dr_val (by simp [execOp,Act.eval,D18 (by kernel_rfl),go_sem] <;> rfl) hinv rfl
    · cases ho;exact dr_val (dr_load 22 (.tmp 31) rfl _ (D19 (by kernel_rfl)) (box_u32 HX.out 14 _ rfl)) hinv rfl
    · cases ho;exact dr_bytes (by simp [execOp,Act.eval,D20 (by kernel_rfl),go_sem] <;> rfl) (low_any _ 1 (by decide) u) hinv
    · cases ho;obtain ⟨a21,c21,e21⟩:=(D21 (by kernel_rfl)).len;have h21:=D21 (by kernel_rfl);rw [e21] at h21;exact dr_bytes (by simp [execOp,Act.eval,D15 (by kernel_rfl),D17 (by kernel_rfl),e21,go_sem] <;> rfl) (placed_any _ _ _ ha.1 ha.2 _ (low_le _ _ (by decide)) _ u h21) hinv
    · cases ho;exact dr_val (by simp [execOp,Act.eval,b5,go_sem] <;> rfl) hinv rfl
    · cases ho;exact dr_val (by simp [execOp,Act.eval,D23 (by kernel_rfl),go_sem,HO4.out] <;> rfl) hinv rfl
    · cases ho;exact dr_val (dr_load 26 (.tmp 2) rfl _ (b2) (box_ins HX.out)) hinv rfl
    · cases ho;exact dr_bytes (by simp [execOp,Act.eval,D25 (by kernel_rfl),go_sem] <;> rfl) (immediate_any x u) hinv
    · cases ho;obtain ⟨a26,c26,e26⟩:=(D26 (by kernel_rfl)).len;have h26:=D26 (by kernel_rfl);rw [e26] at h26;exact dr_bytes (by simp [execOp,Act.eval,D24 (by kernel_rfl),e26,go_sem] <;> rfl) (plain_any _ _ (low_le _ _ (nF_le _)) _ u h26) hinv
    · cases ho;exact dr_val (by simp [execOp,Act.eval,b2,go_sem] <;> rfl) hinv rfl
    · cases ho;exact dr_val (dr_load 3 (.tmp 40) rfl _ (D28 (by kernel_rfl)) (box_int HX.out 2 _ rfl)) hinv rfl
    · cases ho;refine wp_call (by simp [execOp,Act.eval,D29 (by kernel_rfl),go_sem] <;> rfl) ((wide_any _ u).mono ?_);rintro e u1 ⟨rfl,rfl⟩;exact ⟨_,rfl,_,rfl,hinv,Below.refl _ _,rfl⟩
    · cases ho;exact dr_val (by simp [execOp,Act.eval,D30 (by kernel_rfl),go_sem,or_w] <;> rfl) hinv rfl
    · cases ho;exact dr_val (by simp [execOp,Act.eval,b1,go_sem] <;> rfl) hinv rfl
    · cases ho;exact dr_val (by simp [execOp,Act.eval,b2,go_sem] <;> rfl) hinv rfl
    · cases ho;exact dr_val (dr_load 24 (.tmp 45) rfl _ (D33 (by kernel_rfl)) (box_a HX.out)) hinv rfl
    · cases ho;exact dr_val (dr_load 26 (.tmp 2) rfl _ (b2) (box_ins HX.out)) hinv rfl
    · cases ho;exact dr_bytes (by simp [execOp,Act.eval,D35 (by kernel_rfl),go_sem] <;> rfl) (immediate_any x u) hinv
    · cases ho;obtain ⟨a36,c36,e36⟩:=(D36 (by kernel_rfl)).len;have h36:=D36 (by kernel_rfl);rw [e36] at h36;exact dr_bytes (by simp [execOp,Act.eval,D31 (by kernel_rfl),D32 (by kernel_rfl),D34 (by kernel_rfl),e36,go_sem] <;> rfl) (placed_any _ _ _ ha.1 ha.2 _ (low_le _ _ (nF_le _)) _ u h36) hinv
    · cases ho;obtain ⟨a6,c6,e6⟩:=(D6 (by kernel_rfl)).len;obtain ⟨a14,c14,e14⟩:=(D14 (by kernel_rfl)).len;obtain ⟨a22,c22,e22⟩:=(D22 (by kernel_rfl)).len;obtain ⟨a27,c27,e27⟩:=(D27 (by kernel_rfl)).len;obtain ⟨a37,c37,e37⟩:=(D37 (by kernel_rfl)).len;have h6:=D6 (by kernel_rfl);rw [e6] at h6;have h14:=D14 (by kernel_rfl);rw [e14] at h14;have h22:=D22 (by kernel_rfl);rw [e22] at h22;have h27:=D27 (by kernel_rfl);rw [e27] at h27;have h37:=D37 (by kernel_rfl);rw [e37] at h37;rw [Array.getD_eq_getD_getElem?] at e6 e14 e22 e27 e37;exact dr_rows (T:=30) (vs:=[.slice a6 _ c6,.slice a14 _ c14,.slice a22 _ c22,.slice a27 _ c27,.slice a37 _ c37]) (n:=5) (by exact ⟨h6,h14,h22,h27,h37,trivial⟩) (by rfl) (by simp [execOp,Act.eval,e6,e14,e22,e27,e37,go_sem] <;> rfl) hinv
    · cases ho;have h:=D38 (by kernel_rfl);obtain ⟨a,n,c,e⟩:=h.is;exact dr_val (by simp [execOp,Act.eval,e,go_sem] <;> rfl) hinv (by rw [e] at h;exact h)
  · intro f u hinv hV
    have q:BRows u (f 39) [placedF (r * 8+wF x.size) x.b.reg x.a ([]),placedF (r * 8+wF x.size+2) x.a.reg x.b ([]),placedF (131) r x.a (lowF x.b.disp 1),spelledF (r * 8+wF x.size+4) ++ (lowF x.b.disp (nF x.size)),placedF (128+wF x.size) r x.a (lowF x.b.disp (nF x.size))]:=hV 39 (by decide)
    generalize hb:laid _ f _ _=b
    have b4:b.tmps.getD 4 undef=f 39:=by rw [← hb];kernel_rfl
    have bd:b.defers=[]:=by rw [← hb];kernel_rfl
    clear hb
    rw [Array.getD_eq_getD_getElem?] at b4
    obtain ⟨a,m,c,e⟩:=q.is
    rw [e] at q b4
    have HQ:=Lib.hid q
    have HI:=Lib.hid (below_first hinv)
    clear hV q e hinv
    go_wp2_with fail
    exact bodyPost_ret (v:=.slice a m c) (by simp [results,Tryz.results36,go_sem,b4]) bd ⟨_,rfl,HQ.out,HI.out⟩
set_option maxRecDepth 512
def tabS (x:Ins) (r:Int) (R:Nat):List Pm:=[.val (.int .i64 (r)),.val (.pointer (some ⟨R,3,none⟩)),.val (opV x.a),.bytes (placedF (209) r x.a ([])),.val (.int .i64 (r)),.val (.pointer (some ⟨R,3,none⟩)),.val (opV x.a),.bytes (placedF (211) r x.a ([])),.val (.int .i64 (r)),.val (.pointer (some ⟨R,3,none⟩)),.val (opV x.a),.val (.pointer (some ⟨R,9,none⟩)),.val (.pointer (some ⟨R,14,none⟩)),.val (.int .u32 (x.b.disp)),.bytes (lowF x.b.disp 1),.bytes (placedF (193) r x.a (lowF x.b.disp 1)),.rows [placedF (209) r x.a ([]),placedF (211) r x.a ([]),placedF (193) r x.a (lowF x.b.disp 1)],.rows [placedF (209) r x.a ([]),placedF (211) r x.a ([]),placedF (193) r x.a (lowF x.b.disp 1)]]
set_option maxRecDepth 100000
theorem shifted_any (x:Ins) (ha:0 ≤ x.a.disp∧x.a.disp < 4294967296) (hb:0 ≤ x.b.disp∧x.b.disp < 4294967296) (r:Int) (w:World):Calls Tryz.prog 41 #[insV x,.int .i64 r] w (RowsR w ((shiftC r).map (fillF x))):=by
  have _:=ha;have _:=hb
  unfold insV
  go_enter Tryz.func41,Tryz.ntmps41
  go_upto_region 1 with fail
  refine dr_region (tabS x r w.heap.size) (by kernel_rfl) ?_ ?_
  · intro i o b u ho hinv hsz hbase hdep
    have hi:i < 18:=(Array.getElem?_eq_some_iff.1 ho).1
    have b1:b.tmps.getD 1 undef=(.int .i64 (r)):=hbase 1 (by kernel_rfl)
    have b2:b.tmps.getD 2 undef=(.pointer (some ⟨w.heap.size,0,none⟩)):=hbase 2 (by kernel_rfl)
    have HX:=Lib.hid (boxed x hinv)
    clear hbase hsz
    have D0:=tV b 5 (.int .i64 (r)) (hdep 0)
    have D1:=tQ b w.heap.size 6 3 (hdep 1)
    have D2:=tV b 7 (opV x.a) (hdep 2)
    have D3:=tB b u 8 (placedF (209) r x.a ([])) (hdep 3)
    have D4:=tV b 9 (.int .i64 (r)) (hdep 4)
    have D5:=tQ b w.heap.size 10 3 (hdep 5)
    have D6:=tV b 11 (opV x.a) (hdep 6)
    have D7:=tB b u 12 (placedF (211) r x.a ([])) (hdep 7)
    have D8:=tV b 13 (.int .i64 (r)) (hdep 8)
    have D9:=tQ b w.heap.size 14 3 (hdep 9)
    have D10:=tV b 15 (opV x.a) (hdep 10)
    have D11:=tQ b w.heap.size 16 9 (hdep 11)
    have D12:=tQ b w.heap.size 17 14 (hdep 12)
    have D13:=tV b 18 (.int .u32 (x.b.disp)) (hdep 13)
    have D14:=tB b u 19 (lowF x.b.disp 1) (hdep 14)
    have D15:=tB b u 20 (placedF (193) r x.a (lowF x.b.disp 1)) (hdep 15)
    have D16:=tW b u 21 [placedF (209) r x.a ([]),placedF (211) r x.a ([]),placedF (193) r x.a (lowF x.b.disp 1)] (hdep 16)
    clear hdep
    rcases (show i=0 ∨ i=1 ∨ i=2 ∨ i=3 ∨ i=4 ∨ i=5 ∨ i=6 ∨ i=7 ∨ i=8 ∨ i=9 ∨ i=10 ∨ i=11 ∨ i=12 ∨ i=13 ∨ i=14 ∨ i=15 ∨ i=16 ∨ i=17 by omega) with rfl | rfl | rfl | rfl | rfl | rfl | rfl | rfl | rfl | rfl | rfl | rfl | rfl | rfl | rfl | rfl | rfl | rfl
    · cases ho;exact dr_val (by simp [execOp,Act.eval,b1,go_sem] <;> rfl) hinv rfl
    · cases ho;exact dr_val (by simp [execOp,Act.eval,b2,go_sem] <;> rfl) hinv rfl
    · cases ho;exact dr_val (dr_load 24 (.tmp 6) rfl _ (D1 (by kernel_rfl)) (box_a HX.out)) hinv rfl
    · cases ho;exact dr_bytes (by simp [execOp,Act.eval,D0 (by kernel_rfl),D2 (by kernel_rfl),go_sem] <;> rfl) (placed_any _ _ _ ha.1 ha.2 _ (by decide) _ u (.inl ⟨rfl,rfl⟩)) hinv
    · cases ho;exact dr_val (by simp [execOp,Act.eval,b1,go_sem] <;> rfl) hinv rfl
    · cases ho;exact dr_val (by simp [execOp,Act.eval,b2,go_sem] <;> rfl) hinv rfl
    · cases ho;exact dr_val (dr_load 24 (.tmp 10) rfl _ (D5 (by kernel_rfl)) (box_a HX.out)) hinv rfl
    · cases ho;exact dr_bytes (by simp [execOp,Act.eval,D4 (by kernel_rfl),D6 (by kernel_rfl),go_sem] <;> rfl) (placed_any _ _ _ ha.1 ha.2 _ (by decide) _ u (.inl ⟨rfl,rfl⟩)) hinv
    · cases ho;exact dr_val (by simp [execOp,Act.eval,b1,go_sem] <;> rfl) hinv rfl
    · cases ho;exact dr_val (by simp [execOp,Act.eval,b2,go_sem] <;> rfl) hinv rfl
    · cases ho;exact dr_val (dr_load 24 (.tmp 14) rfl _ (D9 (by kernel_rfl)) (box_a HX.out)) hinv rfl
    · cases ho;exact dr_val (by simp [execOp,Act.eval,b2,go_sem] <;> rfl) hinv rfl
    · cases ho;exact dr_val (by simp [execOp,Act.eval,D11 (by kernel_rfl),go_sem] <;> rfl) hinv rfl
    · cases ho;exact dr_val (dr_load 22 (.tmp 17) rfl _ (D12 (by kernel_rfl)) (box_u32 HX.out 14 _ rfl)) hinv rfl
    · cases ho;exact dr_bytes (by simp [execOp,Act.eval,D13 (by kernel_rfl),go_sem] <;> rfl) (low_any _ 1 (by decide) u) hinv
    · cases ho;obtain ⟨a14,c14,e14⟩:=(D14 (by kernel_rfl)).len;have h14:=D14 (by kernel_rfl);rw [e14] at h14;exact dr_bytes (by simp [execOp,Act.eval,D8 (by kernel_rfl),D10 (by kernel_rfl),e14,go_sem] <;> rfl) (placed_any _ _ _ ha.1 ha.2 _ (low_le _ _ (by decide)) _ u h14) hinv
    · cases ho;obtain ⟨a3,c3,e3⟩:=(D3 (by kernel_rfl)).len;obtain ⟨a7,c7,e7⟩:=(D7 (by kernel_rfl)).len;obtain ⟨a15,c15,e15⟩:=(D15 (by kernel_rfl)).len;have h3:=D3 (by kernel_rfl);rw [e3] at h3;have h7:=D7 (by kernel_rfl);rw [e7] at h7;have h15:=D15 (by kernel_rfl);rw [e15] at h15;rw [Array.getD_eq_getD_getElem?] at e3 e7 e15;exact dr_rows (T:=30) (vs:=[.slice a3 _ c3,.slice a7 _ c7,.slice a15 _ c15]) (n:=3) (by exact ⟨h3,h7,h15,trivial⟩) (by rfl) (by simp [execOp,Act.eval,e3,e7,e15,go_sem] <;> rfl) hinv
    · cases ho;have h:=D16 (by kernel_rfl);obtain ⟨a,n,c,e⟩:=h.is;exact dr_val (by simp [execOp,Act.eval,e,go_sem] <;> rfl) hinv (by rw [e] at h;exact h)
  · intro f u hinv hV
    have q:BRows u (f 17) [placedF (209) r x.a ([]),placedF (211) r x.a ([]),placedF (193) r x.a (lowF x.b.disp 1)]:=hV 17 (by decide)
    generalize hb:laid _ f _ _=b
    have b4:b.tmps.getD 4 undef=f 17:=by rw [← hb];kernel_rfl
    have bd:b.defers=[]:=by rw [← hb];kernel_rfl
    clear hb
    rw [Array.getD_eq_getD_getElem?] at b4
    obtain ⟨a,m,c,e⟩:=q.is
    rw [e] at q b4
    have HQ:=Lib.hid q
    have HI:=Lib.hid (below_first hinv)
    clear hV q e hinv
    go_wp2_with fail
    exact bodyPost_ret (v:=.slice a m c) (by simp [results,Tryz.results41,go_sem,b4]) bd ⟨_,rfl,HQ.out,HI.out⟩
end Go.Proofs.YtlnahkkemjgjbaaGreat
