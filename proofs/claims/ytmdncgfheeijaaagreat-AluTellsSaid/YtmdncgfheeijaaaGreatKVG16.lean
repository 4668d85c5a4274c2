import Derived.Test.YtmdncgfheeijaaaGreatKVG15
import Derived.Test.YtmdncgfheeijaaaGreatKVG3
namespace Go.Proofs.YtmdncgfheeijaaaGreat
open Go.ChangeShapes Go.WideShapes Go.ChangeAt Go.RowKit
set_option maxRecDepth 100000
set_option maxHeartbeats 8000000
theorem get_any:GetC 118:=by
 intro s o hs d0 d1 w
 obtain⟨k,r,b,i,c,d⟩:=o
 dsimp only at d0 d1
 have HS:=Lib.hid hs
 clear hs
 obtain⟨B,hB⟩:∃B,decide (0≤r∧r≤7)=B:=⟨_,rfl⟩
 have HIN:=Lib.hid (there_is hB)
 obtain⟨G,hG⟩:∃G,getG s ⟨k,r,b,i,c,d⟩=G:=⟨_,rfl⟩
 rw[hG]
 have HG:=Lib.hid (show(if 0≤r∧r≤7 then(if k=4 then d else if 0≤r∧r≤7 then(if k=1 then s.r r.toNat else if k=2 then s.r (r%4).toNat/(if r<4 then 1 else 256)%256 else if k=5 then s.x r.toNat else 0)else 0)else 0)=G from hG)
 have HB:=Lib.hid hB
 clear hB hG
 unfold staV opV
 go_enter Tryz.func118,Tryz.ntmps118
 go_upto_region 1 with fail
 obtain⟨W,hW⟩:∃W,W=(w.alloc (.cells (staL s).toArray 29)).alloc (.cells #[.int .i64 k,.int .i64 r,.int .i64 b,.int .i64 i,.int .i64 c,.int .u32 d] 32):=⟨_,rfl⟩
 rw[←hW]
 obtain⟨hS,hO,hbel⟩:=heap_two hW
 have HBEL:=Lib.hid hbel
 have k0:W.cell? ⟨w.heap.size+1,0,none⟩=some (.int .i64 k):=(cell_block hO 0).1
 have k1:W.cell? ⟨w.heap.size+1,1,none⟩=some (.int .i64 r):=(cell_block hO 1).1
 have k5:W.cell? ⟨w.heap.size+1,5,none⟩=some (.int .u32 d):=(cell_block hO 5).1
 have HST:=Lib.hid hS
 clear hW hS hO hbel
 go_wp2_with fail
 ((with_reducible refine(HIN.out _).mono ?_);rintro e w' ⟨rfl,rfl⟩)
 cases B with
 |false=>
  have HV:=Lib.hid (show G=0 by rw[←HG.out];exact if_neg (of_decide_eq_false HB.out))
  go_wp2_with fail
  go_ret
  exact⟨by rw[HV.out];rfl,HBEL.out⟩
 |true=>
  have hr:=of_decide_eq_true HB.out
  obtain⟨j,rfl⟩:=Int.eq_ofNat_of_zero_le hr.1
  have hj:j<8:=by omega
  have HG:=Lib.hid ((if_pos hr).symm.trans HG.out)
  have hj8:(j:Int)<8:=by omega
  by_cases h4:k=4
  ·subst h4
   have HV:=Lib.hid (show G=d by rw[←HG.out,if_pos rfl])
   clear hr
   go_wp2_with fail
   go_ret
   exact⟨by rw[HV.out];rfl,HBEL.out⟩
  have e4:(k==4)=false:=by simpa using h4
  have HG:=Lib.hid ((if_neg h4).symm.trans HG.out)
  have HG:=Lib.hid ((if_pos hr).symm.trans HG.out)
  clear hr h4
  by_cases h1:k=1
  ·subst h1
   have hc:W.cell? ⟨w.heap.size,j,none⟩=some (.int .u32 (s.r j)):=(cell_block HST.out j).1.trans (by simpa using sta_r s j hj)
   have HV:=Lib.hid (show G=s.r j by rw[←HG.out,if_pos rfl];rfl)
   have hb:=HS.out.r j hj
   obtain⟨v,hv⟩:∃v,s.r j=v:=⟨_,rfl⟩
   rw[hv]at hc hb HV
   obtain⟨b0,b1⟩:=hb
   clear hv
   go_wp2_with fail
   go_ret
   exact⟨by rw[HV.out];rfl,HBEL.out⟩
  have e1:(k==1)=false:=by simpa using h1
  by_cases h2:k=2
  ·subst h2
   have HH:=Lib.hid (fun u=>home_any j hj u)
   obtain⟨m,hm⟩:∃m,j%4=m:=⟨_,rfl⟩
   have m4:m<8:=by omega
   have m8:(m:Int)<8:=by omega
   have hc:W.cell? ⟨w.heap.size,m,none⟩=some (.int .u32 (s.r m)):=(cell_block HST.out m).1.trans (by simpa using sta_r s m m4)
   have HG:=Lib.hid ((if_neg h1).symm.trans HG.out)
   have HG:=Lib.hid ((if_pos rfl).symm.trans HG.out)
   rw[hm]at HH
   rw[show((j:Int)%4).toNat=m by omega]at HG
   obtain⟨v,hv⟩:∃v,s.r m=v:=⟨_,rfl⟩
   have hb:=HS.out.r m m4
   rw[hv]at hc hb HG
   obtain⟨b0,b1⟩:=hb
   clear hv hm h1 hj8
   by_cases hlo:j<4
   ·rw[if_pos hlo]at HH
    rw[if_pos (show(j:Int)<4 by omega),Int.ediv_one]at HG
    have HC:=Lib.hid (fun u=>cut_any v 1 u)
    rw[show cut v 1=G from HG.out]at HC
    have g0:0≤G:=by rw[←HG.out];omega
    have g1:G<256:=by rw[←HG.out];omega
    clear hlo
    go_wp2_with fail
    ((with_reducible refine(HH.out _).mono ?_);rintro e w' ⟨rfl,rfl⟩)
    go_wp2_with (go_at_call 90;refine(HC.out _).mono ?_;rintro e w' ⟨rfl,rfl⟩)
    go_ret
    exact⟨rfl,HBEL.out⟩
   ·rw[if_neg hlo]at HH
    rw[if_neg (show ¬(j:Int)<4 by omega)]at HG
    have HC:=Lib.hid (fun u=>cut_any (v/256) 1 u)
    rw[show cut (v/256) 1=G from HG.out]at HC
    have g0:0≤G:=by rw[←HG.out];omega
    have g1:G<256:=by rw[←HG.out];omega
    clear hlo
    go_wp2_with fail
    ((with_reducible refine(HH.out _).mono ?_);rintro e w' ⟨rfl,rfl⟩)
    go_wp2_with (go_at_call 90;refine(HC.out _).mono ?_;rintro e w' ⟨rfl,rfl⟩)
    go_ret
    exact⟨rfl,HBEL.out⟩
  have e2:(k==2)=false:=by simpa using h2
  by_cases h5:k=5
  ·subst h5
   have hc:W.cell? ⟨w.heap.size,15+j,none⟩=some (.int .u64 (s.x j)):=(cell_block HST.out (15+j)).1.trans (by simpa using sta_x s j hj)
   have HV:=Lib.hid (show G=s.x j by rw[←HG.out,if_neg h1,if_neg h2,if_pos rfl];rfl)
   clear h1 h2
   go_wp2_with fail
   go_ret
   exact⟨by rw[HV.out];rfl,HBEL.out⟩
  have e5:(k==5)=false:=by simpa using h5
  have HV:=Lib.hid (show G=0 by rw[←HG.out,if_neg h1,if_neg h2,if_neg h5])
  clear h1 h2 h5
  go_wp2_with fail
  go_ret
  exact⟨by rw[HV.out];rfl,HBEL.out⟩
theorem setL_r(s:Sta)(f:Nat→Int):setL (staL s).toArray 0 (rowL_u32 f)=(staL { s with r:=f }).toArray:=by kernel_rfl
theorem setL_x(s:Sta)(f:Nat→Int):setL (staL s).toArray 15 (rowL_u64 f)=(staL { s with x:=f }).toArray:=by kernel_rfl
theorem SB.on{w u u':World}{A:Nat}{t:Sta}(h:SB w A t u)(hb:Below u.heap.size u u'):SB w A t u':=by
 obtain⟨C,hC,hz⟩:=h.a
 exact⟨(hb.block _ (Array.getElem?_eq_some_iff.1 h.b).1).trans h.b,⟨C,(hb.block _ (Array.getElem?_eq_some_iff.1 hC).1).trans hC,hz⟩,h.lt,h.bel.trans (hb.mono h.bel.size)⟩
theorem SB.rowR{w u:World}{A:Nat}{t:Sta}(h:SB w A t u):u.rangeAt w.heap.size 0 (rowL_u32 t.r):=range_in13 h.b 0 _ rfl
theorem SB.rowX{w u:World}{A:Nat}{t:Sta}(h:SB w A t u):u.rangeAt w.heap.size 15 (rowL_u64 t.x):=range_in13 h.b 15 _ rfl
theorem SB.has{w u:World}{A:Nat}{t:Sta}(h:SB w A t u)(o n:Nat)(hn:o+n≤23):u.there w.heap.size o n:=there_block h.b o n hn
theorem store_named{P:Program}{ops:Array Oper}{rest:List Oper}{op:Oper}{a:Act}{w:World}{Q:Exit→Act→World→Prop}(hgd:op.guard=none)(T:TypeId)(x y:Operand)(ho:op.op=.store T x y)
  (b o:Nat) (C:List Value) (hx:a.eval x=.pointer (some ⟨b,o,none⟩)) (hy:a.eval y=.agg C.toArray) (ht:w.there b o C.length) (hi:(P.info? T).map (·.size)=some C.length) (h1:C.toArray.all (·.oneCell')=true)
  (hK:∀Y,Y=w.setCells b o C→wpList P ops Q rest (a.put op.dst undef) Y):wpList P ops Q (op :: rest) a w:=
 wpList_store_mid hgd T x y ho b o C.toArray hx hy (by simpa using ht) (by simpa using hi) h1 (by simpa using hK _ rfl)
theorem SB.cells{w u Y:World}{A o:Nat}{t t':Sta}{vs:List Value}(h:SB w A t u)(hY:Y=u.setCells w.heap.size o vs)(e:setL (staL t).toArray o vs=(staL t').toArray):SB w A t' Y:=by
 obtain⟨C,hC,hz⟩:=h.a
 refine⟨?_,⟨C,by rw[hY];exact(other_setCells (Nat.ne_of_gt h.lt) _ _ _).trans hC,hz⟩,h.lt,by rw[hY];exact below_setCells (Nat.le_refl _) _ _ _ h.bel⟩
 rw[hY,←e]
 exact block_setCells vs o u _ h.b
theorem byteF_mod(r v:Int)(hi:Bool):byteF r (v%4294967296) hi=byteF r v hi:=by
 unfold byteF
 rw[show v%4294967296%256=v%256 by omega]
def SV13(w:World)(s:Sta)(v:Int)(m:Nat)(hi:Bool):Nat→Value→World→Prop
 |0,x,_=>x=.pointer (some ⟨w.heap.size,0,none⟩)
 |1,x,_=>x=.agg (rowL_u32 s.r).toArray
 |2,x,_=>x=.int .i64 m
 |3,x,_=>x=.int .i64 m
 |4,x,_=>x=.pointer (some ⟨w.heap.size,0,none⟩)
 |5,x,_=>x=.pointer (some ⟨w.heap.size,m,none⟩)
 |6,x,_=>x=.int .u32 (s.r m)
 |7,x,_=>x=.int .u64 (if hi then 8 else 0)
 |8,x,_=>x=.int .u64 v
 |9,x,_=>x=.int .u32 (v%4294967296)
 |10,x,_=>x=.int .u32 (byteF (s.r m) v hi)
 |11,x,_=>x=.agg (rowL_u32 (putN s.r m (byteF (s.r m) v hi))).toArray
 |12,x,_=>x=.pointer (some ⟨w.heap.size,0,none⟩)
 |_,_,_=>True
theorem sv13_stays{w:World}{s:Sta}{q:Int}{m:Nat}{hi:Bool}(i:Nat)(v:Value)(u u':World)(h:SV13 w s q m hi i v u)(_:Below u.heap.size u u'):SV13 w s q m hi i v u':=by
 unfold SV13 at h ⊢
 split at h
 all_goals exact h
theorem set_any:SetC 143:=by
 intro s o v hs v0 v1 w
 obtain⟨k,r,b,i,c,d⟩:=o
 have HS:=Lib.hid hs
 clear hs
 obtain⟨B,hB⟩:∃B,decide (0≤r∧r≤7)=B:=⟨_,rfl⟩
 have HIN:=Lib.hid (there_is hB)
 obtain⟨t,ht⟩:∃t,setF s ⟨k,r,b,i,c,d⟩ v=t:=⟨_,rfl⟩
 rw[ht]
 have HT:=Lib.hid ht
 have HB:=Lib.hid hB
 clear hB ht
 unfold staV opV
 go_enter Tryz.func143,Tryz.ntmps143
 go_upto_region 1 with fail
 obtain⟨A,hA⟩:∃A,w.heap.size+1+1=A:=⟨_,rfl⟩
 rw[hA]
 obtain⟨W,hW⟩:∃W,W=((w.alloc (.cells (staL s).toArray 29)).alloc (.cells #[.int .i64 k,.int .i64 r,.int .i64 b,.int .i64 i,.int .i64 c,.int .u32 d] 32)).alloc (.cells #[.int .u32 0,.int .u32 0,.int .u32 0,.int .u32 0,.int .u32 0,.int .u32 0,.int .u32 0,.int .u32 0,.int .u32 0,.bool false,.bool false,.bool false,.bool false,.bool false,.bool false,.int .u64 0,.int .u64 0,.int .u64 0,.int .u64 0,.int .u64 0,.int .u64 0,.int .u64 0,.int .u64 0] 29):=⟨_,rfl⟩
 rw[←hW]
 obtain⟨g1,g2,g3,g4⟩:=heap_three hW
 have HSB:=Lib.hid (show SB w A s W from⟨g1,⟨_,by rw[←hA];exact g3,rfl⟩,by omega,g4⟩)
 have k0:W.cell? ⟨w.heap.size+1,0,none⟩=some (.int .i64 k):=(cell_block g2 0).1
 have k1:W.cell? ⟨w.heap.size+1,1,none⟩=some (.int .i64 r):=(cell_block g2 1).1
 clear hW g1 g2 g3 g4 hA
 go_wp2_with fail
 ((with_reducible refine(HIN.out _).mono ?_);rintro e w' ⟨rfl,rfl⟩)
 cases B with
 |false=>
  have hn:=of_decide_eq_false HB.out
  obtain rfl:s=t:=by rw[←HT.out];exact(if_neg hn).symm
  clear hn
  go_wp2_with (first
  |(refine wpList_load_mid rfl 29 (.tmp 3) rfl w.heap.size 0 rfl (staL s) _ HSB.out.range Tryz.underlying29 rfl info_sta ?_)
  |(refine store_row rfl 29 (.tmp 6) (.tmp 13) rfl A rfl (staL s) rfl _ Tryz.underlying29 rfl info_sta (sta_one s) HSB.out.there ?_;intro Y hY hl;have HL:=Lib.hid hl;have HY:=Lib.hid (show Below w.heap.size w Y by rw[hY];exact below_setCells (Nat.le_of_lt HSB.out.lt) _ _ _ HSB.out.bel);clear hY hl))
  exact bodyPost_ret (results_cell rfl rfl HL.out) rfl ⟨rfl,HY.out⟩
 |true=>
  have hr:=of_decide_eq_true HB.out
  obtain⟨j,rfl⟩:=Int.eq_ofNat_of_zero_le hr.1
  have hj:j<8:=by omega
  have HG:=Lib.hid ((if_pos hr).symm.trans HT.out)
  have hj8:(j:Int)<8:=by omega
  clear hr
  by_cases h1:k=1
  ·subst h1
   have hw:=IntKind.wrap_u32' v
   have HV:=Lib.hid (show{ s with r:=putN s.r j (v%4294967296) }=t by rw[←HG.out,if_pos rfl];rfl)
   have HW:=Lib.hid (fun u=>with_u32_any s.r j hj (v%4294967296) u)
   clear hj8
   go_wp2_with (refine wpList_load_mid rfl 23 (.tmp 18) rfl w.heap.size 0 rfl (rowL_u32 s.r) _ HSB.out.rowR Tryz.underlying23 rfl info_row_u32 ?_)
   ((with_reducible refine(HW.out _).mono ?_);rintro e w2 ⟨rfl,b2⟩)
   have HS2:=Lib.hid (HSB.out.on b2)
   clear b2 k0 k1
   go_wp2_with (first
   |(refine store_named rfl 23 (.tmp 25) (.tmp 24) rfl w.heap.size 0 (rowL_u32 (putN s.r j (v%4294967296))) rfl rfl (HS2.out.has 0 8 (by decide)) info_row_u32 (rowL_u32_one _) ?_;intro Z hZ;have HQ:=Lib.hid (HS2.out.cells hZ ((setL_r s _).trans (by rw[HV.out])));clear hZ)
   |(refine wpList_load_mid rfl 29 (.tmp 3) rfl w.heap.size 0 rfl (staL t) _ HQ.out.range Tryz.underlying29 rfl info_sta ?_)
   |(refine store_row rfl 29 (.tmp 6) (.tmp 56) rfl A rfl (staL t) rfl _ Tryz.underlying29 rfl info_sta (sta_one t) HQ.out.there ?_;intro Y hY hl;have HL:=Lib.hid hl;have HY:=Lib.hid (show Below w.heap.size w Y by rw[hY];exact below_setCells (Nat.le_of_lt HQ.out.lt) _ _ _ HQ.out.bel);clear hY hl))
   exact bodyPost_ret (results_cell rfl rfl HL.out) rfl ⟨rfl,HY.out⟩
  have e1:(k==1)=false:=by simpa using h1
  have HG:=Lib.hid ((if_neg h1).symm.trans HG.out)
  by_cases h2:k=2
  ·subst h2
   have HH:=Lib.hid (fun u=>home_any j hj u)
   have HP:=Lib.hid ((if_pos rfl).symm.trans HG.out)
   obtain⟨m,hm⟩:∃m,j%4=m:=⟨_,rfl⟩
   have m8:m<8:=by omega
   rw[hm]at HH
   rw[show((j:Int)%4).toNat=m by omega]at HP
   obtain⟨hi,hhi⟩:∃hi,decide ((4:Int)≤j)=hi:=⟨_,rfl⟩
   have hsh:(if j<4 then(0:Int)else 8)=if hi then 8 else 0:=by
    rw[←hhi]
    by_cases h:j<4
    ·rw[if_pos h,if_neg (by simp;omega)]
    ·rw[if_neg h,if_pos (by simp;omega)]
   rw[hsh]at HH
   rw[hhi]at HP
   clear hhi hsh hm h1 hj8 hj
   obtain⟨AT,hAT⟩:∃AT:Int,(if hi then 8 else 0)=AT:=⟨_,rfl⟩
   have HAT:=Lib.hid hAT
   rw[hAT]at HH
   clear hAT
   go_wp2_with fail
   ((with_reducible refine(HH.out _).mono ?_);rintro e w' ⟨rfl,rfl⟩)
   go_wp2_with fail
   rw[←HAT.out]
   refine wp_region_valsT (by kernel_rfl) 13 _ rfl rfl (by kernel_rfl) (fun i=>i==13) (by kernel_rfl) (SB w A s) (fun u u'=>Below u.heap.size u u') (SV13 w s v m hi) sv13_stays (fun _=>Below.refl _ _) HSB.out.drew ?_ ?_
   ·intro n op c u hn ho hinv hsz hbase hdep
    have b3:c.tmps.getD 3 undef=.pointer (some ⟨w.heap.size,0,none⟩):=hbase 3 (by kernel_rfl)
    have b2:c.tmps.getD 2 undef=.int .u64 v:=hbase 2 (by kernel_rfl)
    have b7:c.tmps.getD 7 undef=.int .i64 m:=hbase 7 (by kernel_rfl)
    have b8:c.tmps.getD 8 undef=.int .u64 (if hi then 8 else 0):=hbase 8 (by kernel_rfl)
    clear hbase hsz
    rcases(show n=0∨n=1∨n=2∨n=3∨n=4∨n=5∨n=6∨n=7∨n=8∨n=9∨n=10∨n=11∨n=12 by omega)with rfl|rfl|rfl|rfl|rfl|rfl|rfl|rfl|rfl|rfl|rfl|rfl|rfl
    ·cases ho
     exact wp_val (by simp[execOp,Act.eval,b3,go_sem]<;>rfl) ⟨_,rfl,hinv,Below.refl _ _,rfl⟩
    ·cases ho
     have e0:c.tmps.getD 34 undef=.pointer (some ⟨w.heap.size,0,none⟩):=hdep 0 (by kernel_rfl)
     have hl:=load_range (P:=Tryz.prog) (cs:=rowL_u32 s.r) 23 _ Tryz.underlying23 rfl info_row_u32 hinv.rowR
     exact wp_val (by simp[execOp,Act.eval,e0,Instr.loadAt,Instr.sureAddr,hl]<;>rfl) ⟨_,rfl,hinv,Below.refl _ _,rfl⟩
    ·cases ho
     exact wp_val (by simp[execOp,Act.eval,b7,go_sem]<;>rfl) ⟨_,rfl,hinv,Below.refl _ _,rfl⟩
    ·cases ho
     exact wp_val (by simp[execOp,Act.eval,b7,go_sem]<;>rfl) ⟨_,rfl,hinv,Below.refl _ _,rfl⟩
    ·cases ho
     exact wp_val (by simp[execOp,Act.eval,b3,go_sem]<;>rfl) ⟨_,rfl,hinv,Below.refl _ _,rfl⟩
    ·cases ho
     have e4:c.tmps.getD 38 undef=.pointer (some ⟨w.heap.size,0,none⟩):=hdep 4 (by kernel_rfl)
     have e3:c.tmps.getD 37 undef=.int .i64 m:=hdep 3 (by kernel_rfl)
     have hm8:(m:Int)<8:=by omega
     exact wp_val (by simp[execOp,Act.eval,e3,e4,hm8,go_sem]<;>rfl) ⟨_,rfl,hinv,Below.refl _ _,rfl⟩
    ·cases ho
     have e5:c.tmps.getD 39 undef=.pointer (some ⟨w.heap.size,m,none⟩):=hdep 5 (by kernel_rfl)
     have hc:u.cell? ⟨w.heap.size,m,none⟩=some (.int .u32 (s.r m)):=(cell_block hinv.b m).1.trans (by simpa using sta_r s m m8)
     exact wp_val (by simp[execOp,Act.eval,e5,hc,go_sem]<;>rfl) ⟨_,rfl,hinv,Below.refl _ _,rfl⟩
    ·cases ho
     exact wp_val (by simp[execOp,Act.eval,b8,go_sem]<;>rfl) ⟨_,rfl,hinv,Below.refl _ _,rfl⟩
    ·cases ho
     exact wp_val (by simp[execOp,Act.eval,b2,go_sem]<;>rfl) ⟨_,rfl,hinv,Below.refl _ _,rfl⟩
    ·cases ho
     have e8:c.tmps.getD 42 undef=.int .u64 v:=hdep 8 (by kernel_rfl)
     have hw:=IntKind.wrap_u32' v
     exact wp_val (by simp[execOp,Act.eval,e8,hw,go_sem]<;>rfl) ⟨_,rfl,hinv,Below.refl _ _,rfl⟩
    ·cases ho
     have e6:c.tmps.getD 40 undef=.int .u32 (s.r m):=hdep 6 (by kernel_rfl)
     have e7:c.tmps.getD 41 undef=.int .u64 (if hi then 8 else 0):=hdep 7 (by kernel_rfl)
     have e9:c.tmps.getD 43 undef=.int .u32 (v%4294967296):=hdep 9 (by kernel_rfl)
     have hp:=patched_any (s.r m) (v%4294967296) hi (HS.out.r m m8).1 (HS.out.r m m8).2 u
     rw[byteF_mod]at hp
     refine wp_call (by simp[execOp,Act.eval,e6,e7,e9,go_sem]<;>rfl) (hp.mono ?_)
     rintro e u' ⟨rfl,rfl⟩
     exact⟨_,rfl,_,rfl,hinv,Below.refl _ _,rfl⟩
    ·cases ho
     have e1:c.tmps.getD 35 undef=.agg (rowL_u32 s.r).toArray:=hdep 1 (by kernel_rfl)
     have e2:c.tmps.getD 36 undef=.int .i64 m:=hdep 2 (by kernel_rfl)
     have e10:c.tmps.getD 44 undef=.int .u32 (byteF (s.r m) v hi):=hdep 10 (by kernel_rfl)
     refine wp_call (by simp[execOp,Act.eval,e1,e2,e10,go_sem]<;>rfl) ((with_u32_any s.r m m8 (byteF (s.r m) v hi) u).mono ?_)
     rintro e u' ⟨rfl,hb⟩
     exact⟨_,rfl,_,rfl,hinv.on hb,hb,rfl⟩
    ·cases ho
     exact wp_val (by simp[execOp,Act.eval,b3,go_sem]<;>rfl) ⟨_,rfl,hinv,Below.refl _ _,rfl⟩
   ·intro f u hinv hV
    have q11:f 11=.agg (rowL_u32 (putN s.r m (byteF (s.r m) v hi))).toArray:=hV 11 (by decide)
    have q12:f 12=.pointer (some ⟨w.heap.size,0,none⟩):=hV 12 (by decide)
    generalize hc:laid _ f _ _=c
    have b3:c.tmps.getD 3 undef=.pointer (some ⟨w.heap.size,0,none⟩):=by rw[←hc];kernel_rfl
    have b6:c.tmps.getD 6 undef=.pointer (some ⟨A,0,none⟩):=by rw[←hc];kernel_rfl
    have b45:c.tmps.getD 45 undef=.agg (rowL_u32 (putN s.r m (byteF (s.r m) v hi))).toArray:=by rw[←hc,←q11];kernel_rfl
    have b46:c.tmps.getD 46 undef=.pointer (some ⟨w.heap.size,0,none⟩):=by rw[←hc,←q12];kernel_rfl
    have bs:c.tmps.size=57:=by rw[←hc];kernel_rfl
    have bd:c.defers=[]:=by rw[←hc];kernel_rfl
    clear hc hV q11 q12
    refine wp_store_mid 23 (.tmp 46) (.tmp 45) rfl w.heap.size 0 (rowL_u32 (putN s.r m (byteF (s.r m) v hi))).toArray b46 b45 (hinv.has 0 8 (by decide)) info_row_u32 (rowL_u32_one _) ?_
    obtain⟨Z,hZ⟩:∃Z,Z=u.setCells w.heap.size 0 (rowL_u32 (putN s.r m (byteF (s.r m) v hi))):=⟨_,rfl⟩
    have HQ:=Lib.hid (show SB w A t Z from hinv.cells hZ ((setL_r s _).trans (by rw[←HP.out])))
    show Exit.inBlock 0 (Exit.then _ _) Exit.normal c (u.setCells w.heap.size 0 (rowL_u32 (putN s.r m (byteF (s.r m) v hi))))
    rw[←hZ]
    clear hZ hinv b45 b46
    have p6:∀x,(c.put (some 56) x).tmps.getD 6 undef=.pointer (some ⟨A,0,none⟩):=fun x=>by rw[put_other _ _ _ _ (by decide)];exact b6
    have p56:∀x,(c.put (some 56) x).tmps.getD 56 undef=x:=fun x=>put_same _ _ _ (by rw[bs];decide)
    have pd:∀x,(c.put (some 56) x).defers=[]:=fun x=>by rw[put_defers,bd]
    go_wp2_with (first
     |(refine wpList_load_mid rfl 29 (.tmp 3) rfl w.heap.size 0 b3 (staL t) _ HQ.out.range Tryz.underlying29 rfl info_sta ?_)
     |(refine store_row rfl 29 (.tmp 6) (.tmp 56) rfl A (p6 _) (staL t) (p56 _) _ Tryz.underlying29 rfl info_sta (sta_one t) HQ.out.there ?_;intro Y hY hl;have HL:=Lib.hid hl;have HY:=Lib.hid (show Below w.heap.size w Y by rw[hY];exact below_setCells (Nat.le_of_lt HQ.out.lt) _ _ _ HQ.out.bel);clear hY hl))
    exact bodyPost_ret (results_cell rfl (p6 _) HL.out) (pd _) ⟨rfl,HY.out⟩
  have e2:(k==2)=false:=by simpa using h2
  have HG:=Lib.hid ((if_neg h2).symm.trans HG.out)
  by_cases h5:k=5
  ·subst h5
   have HV:=Lib.hid (show{ s with x:=putN s.x j v }=t by rw[←HG.out,if_pos rfl];rfl)
   have HW:=Lib.hid (fun u=>with_u64_any s.x j hj v u)
   clear hj8
   go_wp2_with (refine wpList_load_mid rfl 27 (.tmp 49) rfl w.heap.size 15 rfl (rowL_u64 s.x) _ HSB.out.rowX Tryz.underlying27 rfl info_row_u64 ?_)
   ((with_reducible refine(HW.out _).mono ?_);rintro e w2 ⟨rfl,b2⟩)
   have HS2:=Lib.hid (HSB.out.on b2)
   clear b2 k0 k1
   go_wp2_with (first
   |(refine store_named rfl 27 (.tmp 55) (.tmp 54) rfl w.heap.size 15 (rowL_u64 (putN s.x j v)) rfl rfl (HS2.out.has 15 8 (by decide)) info_row_u64 (rowL_u64_one _) ?_;intro Z hZ;have HQ:=Lib.hid (HS2.out.cells hZ ((setL_x s _).trans (by rw[HV.out])));clear hZ)
   |(refine wpList_load_mid rfl 29 (.tmp 3) rfl w.heap.size 0 rfl (staL t) _ HQ.out.range Tryz.underlying29 rfl info_sta ?_)
   |(refine store_row rfl 29 (.tmp 6) (.tmp 56) rfl A rfl (staL t) rfl _ Tryz.underlying29 rfl info_sta (sta_one t) HQ.out.there ?_;intro Y hY hl;have HL:=Lib.hid hl;have HY:=Lib.hid (show Below w.heap.size w Y by rw[hY];exact below_setCells (Nat.le_of_lt HQ.out.lt) _ _ _ HQ.out.bel);clear hY hl))
   exact bodyPost_ret (results_cell rfl rfl HL.out) rfl ⟨rfl,HY.out⟩
  have e5:(k==5)=false:=by simpa using h5
  obtain rfl:s=t:=by rw[←HG.out,if_neg h5]
  clear h1 h2 h5
  go_wp2_with (first
  |(refine wpList_load_mid rfl 29 (.tmp 3) rfl w.heap.size 0 rfl (staL s) _ HSB.out.range Tryz.underlying29 rfl info_sta ?_)
  |(refine store_row rfl 29 (.tmp 6) (.tmp 56) rfl A rfl (staL s) rfl _ Tryz.underlying29 rfl info_sta (sta_one s) HSB.out.there ?_;intro Y hY hl;have HL:=Lib.hid hl;have HY:=Lib.hid (show Below w.heap.size w Y by rw[hY];exact below_setCells (Nat.le_of_lt HSB.out.lt) _ _ _ HSB.out.bel);clear hY hl))
  exact bodyPost_ret (results_cell rfl rfl HL.out) rfl ⟨rfl,HY.out⟩
def wideLo(s:Sta)(op x:Int):Int:=if op=12 then mulL (s.r 0) x else if op=13 then imulL (s.r 0) x else if op=14 then divQ (s.r 2) (s.r 0) x else idQ (s.r 2) (s.r 0) x
def wideHi(s:Sta)(op x:Int):Int:=if op=12 then mulH (s.r 0) x else if op=13 then imulH (s.r 0) x else if op=14 then divR (s.r 2) (s.r 0) x else idR (s.r 2) (s.r 0) x
def wideO(s:Sta)(op x:Int):Bool:=if op=12∨op=13 then true else if op=14 then divOk (s.r 2) x else idOk (s.r 2) (s.r 0) x
def wideC(s:Sta)(op x:Int)(f:Bool):Bool:=if op=12 then mulC (s.r 0) x else if op=13 then imulC (s.r 0) x else f
def wideT(s:Sta)(op x:Int):Sta:={ s with r:=putN (putN s.r 0 (wideLo s op x)) 2 (wideHi s op x),c:=wideC s op x s.c,o:=wideC s op x s.o }
theorem divQ_ok{h l d:Int}(h0:0≤h)(l0:0≤l)(l1:l<4294967296):0≤divQ h l d∧divQ h l d<4294967296:=by
 unfold divQ
 split
 ·rename_i hd
  have hb:0≤both h l:=by unfold both;omega
  refine⟨Int.ediv_nonneg hb (by omega),Int.ediv_lt_of_lt_mul (by omega) ?_⟩
  unfold both
  omega
 ·omega
theorem divR_ok{h l d:Int}(h0:0≤h)(d1:d<4294967296):0≤divR h l d∧divR h l d<4294967296:=by
 unfold divR
 split
 ·rename_i hd
  have:=Int.emod_nonneg (both h l) (show d≠0 by omega)
  have:=Int.emod_lt_of_pos (both h l) (show 0<d by omega)
  omega
 ·omega
theorem wide_ok{s:Sta}(hs:StaOk s)(op x:Int)(x0:0≤x)(x1:x<4294967296):(0≤wideLo s op x∧wideLo s op x<4294967296)∧(0≤wideHi s op x∧wideHi s op x<4294967296):=by
 have h0:=hs.r 0 (by decide)
 have h2:=hs.r 2 (by decide)
 have m0:=mul_lo (s.r 0) x h0.1 x0
 have m1:=mul_hi (s.r 0) x h0.2 x0 x1
 have q:=divQ_ok (d:=x) h2.1 h0.1 h0.2
 have r:=divR_ok (l:=s.r 0) h2.1 x1
 unfold wideLo wideHi
 constructor
 ·split
  ·unfold mulL;omega
  ·split
   ·unfold imulL;omega
   ·split
    ·exact q
    ·unfold idQ;split<;>omega
 ·split
  ·unfold mulH;omega
  ·split
   ·unfold imulH;omega
   ·split
    ·exact r
    ·unfold idR;split<;>omega
theorem wideT_ok{s:Sta}(hs:StaOk s)(op x:Int)(x0:0≤x)(x1:x<4294967296):StaOk (wideT s op x):=by
 obtain⟨h1,h2⟩:=wide_ok hs op x x0 x1
 exact⟨put_ok (put_ok hs.r h1 0) h2 2,hs.x,hs.ip⟩
def flL(c p z s o d:Bool):List Value:=[.bool c,.bool p,.bool z,.bool s,.bool o,.bool d]
theorem flL_one(c p z s o d:Bool):(flL c p z s o d).toArray.all (·.oneCell')=true:=by simp[flL,Value.oneCell']
theorem setL_fl(s:Sta)(c p z sg o d:Bool):setL (staL s).toArray 9 (flL c p z sg o d)=(staL { s with c:=c,p:=p,z:=z,s:=sg,o:=o,d:=d }).toArray:=by kernel_rfl
theorem SB.flags{w u:World}{A:Nat}{t:Sta}(h:SB w A t u):u.rangeAt w.heap.size 9 (flL t.c t.p t.z t.s t.o t.d):=range_in13 h.b 9 _ rfl
theorem info_fl15:(Tryz.prog.info? 25).map (·.size)=some 6:=by kernel_rfl
theorem rwide_any(s:Sta)(op x:Int)(hs:StaOk s)(x0:0≤x)(x1:x<4294967296)(w:World):Calls Tryz.prog 114 #[staV s,.int .i64 op,.int .u32 x] w fun e w'=>e=.returned (.tuple #[if wideO s op x then staV (wideT s op x)else staV s,.int .i64 (if wideO s op x then 0 else 3)])∧Below w.heap.size w w':=by
 have h0:=hs.r 0 (by decide)
 have h2:=hs.r 2 (by decide)
 obtain⟨LO,HI⟩:=wide_ok hs op x x0 x1
 obtain⟨a,ha⟩:∃a,s.r 0=a:=⟨_,rfl⟩
 obtain⟨d,hd⟩:∃d,s.r 2=d:=⟨_,rfl⟩
 have HA:=Lib.hid ha
 have HD:=Lib.hid hd
 have HO:=Lib.hid (show wideO s op x=if op=12∨op=13 then true else if op=14 then divOk d x else idOk d a x by rw[←ha,←hd];rfl)
 have HLO:=Lib.hid (show wideLo s op x=if op=12 then mulL a x else if op=13 then imulL a x else if op=14 then divQ d a x else idQ d a x by rw[←ha,←hd];rfl)
 have HHI:=Lib.hid (show wideHi s op x=if op=12 then mulH a x else if op=13 then imulH a x else if op=14 then divR d a x else idR d a x by rw[←ha,←hd];rfl)
 have HCF:=Lib.hid (show ∀f,wideC s op x f=if op=12 then mulC a x else if op=13 then imulC a x else f by rw[←ha];exact fun _=>rfl)
 have HT:=Lib.hid (show wideT s op x={ s with r:=putN (putN s.r 0 (wideLo s op x)) 2 (wideHi s op x),c:=wideC s op x s.c,o:=wideC s op x s.o }from rfl)
 obtain⟨T,hT⟩:∃T,wideT s op x=T:=⟨_,rfl⟩
 rw[hT]at HT ⊢
 obtain⟨RV,hRV⟩:∃RV,(if wideO s op x then staV T else staV s)=RV:=⟨_,rfl⟩
 obtain⟨RE,hRE⟩:∃RE:Int,(if wideO s op x then 0 else 3)=RE:=⟨_,rfl⟩
 have HRV:=Lib.hid hRV
 have HRE:=Lib.hid hRE
 rw[hRV,hRE]
 rw[ha]at h0
 rw[hd]at h2
 obtain⟨a0,a1⟩:=h0
 obtain⟨d0,d1⟩:=h2
 clear hT hs ha hd LO HI hRV hRE
 unfold staV
 go_enter Tryz.func114,Tryz.ntmps114
 go_upto_region 1 with fail
 obtain⟨R0,hR0⟩:∃A,w.heap.size+1=A:=⟨_,rfl⟩
 rw[hR0]
 obtain⟨W,hW⟩:∃W,W=(w.alloc (.cells (staL s).toArray 29)).alloc (.cells #[.int .u32 0,.int .u32 0,.int .u32 0,.int .u32 0,.int .u32 0,.int .u32 0,.int .u32 0,.int .u32 0,.int .u32 0,.bool false,.bool false,.bool false,.bool false,.bool false,.bool false,.int .u64 0,.int .u64 0,.int .u64 0,.int .u64 0,.int .u64 0,.int .u64 0,.int .u64 0,.int .u64 0] 29):=⟨_,rfl⟩
 rw[←hW]
 obtain⟨g1,g2,g3⟩:=heap_two hW
 rw[hR0]at g2
 have HSB:=Lib.hid (show SB w R0 s W from⟨g1,⟨_,g2,rfl⟩,by omega,g3⟩)
 have c0:W.cell? ⟨w.heap.size,0,none⟩=some (.int .u32 a):=by rw[←HA.out];exact(cell_block g1 0).1
 have c2:W.cell? ⟨w.heap.size,2,none⟩=some (.int .u32 d):=by rw[←HD.out];exact(cell_block g1 2).1
 clear hW g1 g2 g3 hR0
 go_wp2_with fail
 go_quiet (fail)
 have HSB:=Lib.hid (show SB w R0 s (W.drewN nq)from⟨HSB.out.b,HSB.out.a,HSB.out.lt,below_dr HSB.out.bel _⟩)
 clear c0 c2
 generalize W.drewN nq=W at *
 by_cases h12:op=12
 ·subst h12
  obtain⟨HI,hHI⟩:∃z,mulH a x=z:=⟨_,rfl⟩
  obtain⟨LO,hLO⟩:∃z,mulL a x=z:=⟨_,rfl⟩
  obtain⟨CF,hCF⟩:∃z,mulC a x=z:=⟨_,rfl⟩
  have HO1:=Lib.hid (show wideO s 12 x=true from HO.out.trans (if_pos (by decide)))
  have HTT:=Lib.hid (show({ s with r:=putN (putN s.r 0 LO) 2 HI,c:=CF,o:=CF }:Sta)=T by
   rw[HT.out,HLO.out,HHI.out,HCF.out,HCF.out]
   simp[hHI,hLO,hCF])
  have H1:=Lib.hid (fun u=>rmul_any s.c s.p s.z s.s s.o s.d a x a0 a1 x0 x1 u)
  rw[hHI,hLO,hCF]at H1
  rw[show(Value.agg #[.bool CF,.bool s.p,.bool s.z,.bool s.s,.bool CF,.bool s.d])=.agg (flL CF s.p s.z s.s CF s.d).toArray from rfl,show(Value.agg #[.bool s.c,.bool s.p,.bool s.z,.bool s.s,.bool s.o,.bool s.d])=.agg (flL s.c s.p s.z s.s s.o s.d).toArray from rfl]at H1
  clear hHI hLO hCF HO HT HLO HHI HCF
  go_wp2_with (refine wpList_load_mid rfl 25 (.tmp 31) rfl w.heap.size 9 rfl (flL s.c s.p s.z s.s s.o s.d) _ HSB.out.flags Tryz.underlying25 rfl info_fl15 ?_)
  ((with_reducible refine(H1.out _).mono ?_);rintro e w1 ⟨rfl,b1⟩)
  have HS1:=Lib.hid (HSB.out.on b1)
  clear b1
  go_upto_region 12 with(refine store_named rfl 25 (.tmp 39) (.tmp 38) rfl w.heap.size 9 (flL CF s.p s.z s.s CF s.d) rfl rfl (HS1.out.has 9 6 (by decide)) info_fl15 (flL_one _ _ _ _ _ _) ?_;intro V hV;have HS2:=Lib.hid (HS1.out.cells hV (setL_fl s _ _ _ _ _ _));clear hV)
  have c0:=(cell_block HS2.out.b 0).1
  have f0:=(cell_block HS2.out.b 0).2
  have c2:=(cell_block HS2.out.b 2).1
  have f2:=(cell_block HS2.out.b 2).2
  have c0:V.cell? ⟨w.heap.size,0,none⟩=some (.int .u32 (s.r 0)):=c0
  have c2:V.cell? ⟨w.heap.size,2,none⟩=some (.int .u32 (s.r 2)):=c2
  go_upto_region 15 with fail
  obtain⟨Z,hZ⟩:∃Z,Z=(V.setCell ⟨w.heap.size,0,none⟩ (.int .u32 LO)).setCell ⟨w.heap.size,2,none⟩ (.int .u32 HI):=⟨_,rfl⟩
  rw[←hZ]
  have HQ:=Lib.hid (show SB w R0 T Z by rw[hZ];exact(HS2.out.set 0 _ (sta_put _ 0 (by decide) _)).set 2 _ ((sta_put _ 2 (by decide) _).trans (by rw[HTT.out])))
  clear hZ
  go_wp2_with (first
   |(refine wpList_load_mid rfl 29 (.tmp 3) rfl w.heap.size 0 rfl (staL T) _ HQ.out.range Tryz.underlying29 rfl info_sta ?_)
   |(refine store_row rfl 29 (.tmp 6) (.tmp 71) rfl R0 rfl (staL T) rfl _ Tryz.underlying29 rfl info_sta (sta_one T) HQ.out.there ?_;intro Y hY hl;have HL:=Lib.hid hl;have HY:=Lib.hid (show Below w.heap.size w Y by rw[hY];exact below_setCells (Nat.le_of_lt HQ.out.lt) _ _ _ HQ.out.bel);clear hY hl))
  exact bodyPost_ret (results_cell_tmp rfl rfl rfl HL.out) rfl ⟨by rw[←HRV.out,←HRE.out,HO1.out];rfl,HY.out⟩
 have e12:(op==12)=false:=by simpa using h12
 by_cases h13:op=13
 ·subst h13
  obtain⟨HI,hHI⟩:∃z,imulH a x=z:=⟨_,rfl⟩
  obtain⟨LO,hLO⟩:∃z,imulL a x=z:=⟨_,rfl⟩
  obtain⟨CF,hCF⟩:∃z,imulC a x=z:=⟨_,rfl⟩
  have HO1:=Lib.hid (show wideO s 13 x=true from HO.out.trans (if_pos (by decide)))
  have HTT:=Lib.hid (show({ s with r:=putN (putN s.r 0 LO) 2 HI,c:=CF,o:=CF }:Sta)=T by
   rw[HT.out,HLO.out,HHI.out,HCF.out,HCF.out]
   simp[hHI,hLO,hCF])
  have H1:=Lib.hid (fun u=>rimul_any s.c s.p s.z s.s s.o s.d a x u)
  rw[hHI,hLO,hCF]at H1
  rw[show(Value.agg #[.bool CF,.bool s.p,.bool s.z,.bool s.s,.bool CF,.bool s.d])=.agg (flL CF s.p s.z s.s CF s.d).toArray from rfl,show(Value.agg #[.bool s.c,.bool s.p,.bool s.z,.bool s.s,.bool s.o,.bool s.d])=.agg (flL s.c s.p s.z s.s s.o s.d).toArray from rfl]at H1
  clear hHI hLO hCF HO HT HLO HHI HCF
  go_wp2_with (refine wpList_load_mid rfl 25 (.tmp 43) rfl w.heap.size 9 rfl (flL s.c s.p s.z s.s s.o s.d) _ HSB.out.flags Tryz.underlying25 rfl info_fl15 ?_)
  ((with_reducible refine(H1.out _).mono ?_);rintro e w1 ⟨rfl,b1⟩)
  have HS1:=Lib.hid (HSB.out.on b1)
  clear b1
  go_upto_region 12 with(refine store_named rfl 25 (.tmp 51) (.tmp 50) rfl w.heap.size 9 (flL CF s.p s.z s.s CF s.d) rfl rfl (HS1.out.has 9 6 (by decide)) info_fl15 (flL_one _ _ _ _ _ _) ?_;intro V hV;have HS2:=Lib.hid (HS1.out.cells hV (setL_fl s _ _ _ _ _ _));clear hV)
  have c0:=(cell_block HS2.out.b 0).1
  have f0:=(cell_block HS2.out.b 0).2
  have c2:=(cell_block HS2.out.b 2).1
  have f2:=(cell_block HS2.out.b 2).2
  have c0:V.cell? ⟨w.heap.size,0,none⟩=some (.int .u32 (s.r 0)):=c0
  have c2:V.cell? ⟨w.heap.size,2,none⟩=some (.int .u32 (s.r 2)):=c2
  go_upto_region 15 with fail
  obtain⟨Z,hZ⟩:∃Z,Z=(V.setCell ⟨w.heap.size,0,none⟩ (.int .u32 LO)).setCell ⟨w.heap.size,2,none⟩ (.int .u32 HI):=⟨_,rfl⟩
  rw[←hZ]
  have HQ:=Lib.hid (show SB w R0 T Z by rw[hZ];exact(HS2.out.set 0 _ (sta_put _ 0 (by decide) _)).set 2 _ ((sta_put _ 2 (by decide) _).trans (by rw[HTT.out])))
  clear hZ
  go_wp2_with (first
   |(refine wpList_load_mid rfl 29 (.tmp 3) rfl w.heap.size 0 rfl (staL T) _ HQ.out.range Tryz.underlying29 rfl info_sta ?_)
   |(refine store_row rfl 29 (.tmp 6) (.tmp 71) rfl R0 rfl (staL T) rfl _ Tryz.underlying29 rfl info_sta (sta_one T) HQ.out.there ?_;intro Y hY hl;have HL:=Lib.hid hl;have HY:=Lib.hid (show Below w.heap.size w Y by rw[hY];exact below_setCells (Nat.le_of_lt HQ.out.lt) _ _ _ HQ.out.bel);clear hY hl))
  exact bodyPost_ret (results_cell_tmp rfl rfl rfl HL.out) rfl ⟨by rw[←HRV.out,←HRE.out,HO1.out];rfl,HY.out⟩
 have e13:(op==13)=false:=by simpa using h13
 by_cases h14:op=14
 ·subst h14
  obtain⟨HI,hHI⟩:∃z,divR d a x=z:=⟨_,rfl⟩
  obtain⟨LO,hLO⟩:∃z,divQ d a x=z:=⟨_,rfl⟩
  obtain⟨OK,hOK⟩:∃z,divOk d x=z:=⟨_,rfl⟩
  have HO1:=Lib.hid (show wideO s 14 x=OK by rw[HO.out];simp[hOK])
  have HTT:=Lib.hid (show({ s with r:=putN (putN s.r 0 LO) 2 HI }:Sta)=T by
   rw[HT.out,HLO.out,HHI.out,HCF.out,HCF.out]
   simp[hHI,hLO])
  have H1:=Lib.hid (fun u=>rdiv_any d a x d0 d1 a0 a1 x0 x1 u)
  rw[hHI,hLO,hOK]at H1
  clear hHI hLO hOK HO HT HLO HHI HCF
  go_wp2_with fail
  ((with_reducible refine(H1.out _).mono ?_);rintro e w1 ⟨rfl,b1⟩)
  have HS2:=Lib.hid (HSB.out.on b1)
  clear b1
  cases OK with
  |false=>
   go_wp2_with (first
    |(refine wpList_load_mid rfl 29 (.tmp 3) rfl w.heap.size 0 rfl (staL s) _ HS2.out.range Tryz.underlying29 rfl info_sta ?_)
    |(refine store_row rfl 29 (.tmp 6) (.tmp 64) rfl R0 rfl (staL s) rfl _ Tryz.underlying29 rfl info_sta (sta_one s) HS2.out.there ?_;intro Y hY hl;have HL:=Lib.hid hl;have HY:=Lib.hid (show Below w.heap.size w Y by rw[hY];exact below_setCells (Nat.le_of_lt HS2.out.lt) _ _ _ HS2.out.bel);clear hY hl))
   exact bodyPost_ret (results_cell_tmp rfl rfl rfl HL.out) rfl ⟨by rw[←HRV.out,←HRE.out,HO1.out];rfl,HY.out⟩
  |true=>
   have c0:=(cell_block HS2.out.b 0).1
   have f0:=(cell_block HS2.out.b 0).2
   have c2:=(cell_block HS2.out.b 2).1
   have f2:=(cell_block HS2.out.b 2).2
   have c0:w1.cell? ⟨w.heap.size,0,none⟩=some (.int .u32 (s.r 0)):=c0
   have c2:w1.cell? ⟨w.heap.size,2,none⟩=some (.int .u32 (s.r 2)):=c2
   go_upto_region 15 with fail
   obtain⟨Z,hZ⟩:∃Z,Z=(w1.setCell ⟨w.heap.size,0,none⟩ (.int .u32 LO)).setCell ⟨w.heap.size,2,none⟩ (.int .u32 HI):=⟨_,rfl⟩
   rw[←hZ]
   have HQ:=Lib.hid (show SB w R0 T Z by rw[hZ];exact(HS2.out.set 0 _ (sta_put _ 0 (by decide) _)).set 2 _ ((sta_put _ 2 (by decide) _).trans (by rw[HTT.out])))
   clear hZ
   go_wp2_with (first
    |(refine wpList_load_mid rfl 29 (.tmp 3) rfl w.heap.size 0 rfl (staL T) _ HQ.out.range Tryz.underlying29 rfl info_sta ?_)
    |(refine store_row rfl 29 (.tmp 6) (.tmp 71) rfl R0 rfl (staL T) rfl _ Tryz.underlying29 rfl info_sta (sta_one T) HQ.out.there ?_;intro Y hY hl;have HL:=Lib.hid hl;have HY:=Lib.hid (show Below w.heap.size w Y by rw[hY];exact below_setCells (Nat.le_of_lt HQ.out.lt) _ _ _ HQ.out.bel);clear hY hl))
   exact bodyPost_ret (results_cell_tmp rfl rfl rfl HL.out) rfl ⟨by rw[←HRV.out,←HRE.out,HO1.out];rfl,HY.out⟩
 ·have e14:(op==14)=false:=by simpa using h14
  obtain⟨HI,hHI⟩:∃z,idR d a x=z:=⟨_,rfl⟩
  obtain⟨LO,hLO⟩:∃z,idQ d a x=z:=⟨_,rfl⟩
  obtain⟨OK,hOK⟩:∃z,idOk d a x=z:=⟨_,rfl⟩
  have HO1:=Lib.hid (show wideO s op x=OK by rw[HO.out];simp[hOK,h12,h13,h14])
  have HTT:=Lib.hid (show({ s with r:=putN (putN s.r 0 LO) 2 HI }:Sta)=T by
   rw[HT.out,HLO.out,HHI.out,HCF.out,HCF.out]
   simp[hHI,hLO,h12,h13,h14])
  have H1:=Lib.hid (fun u=>ridiv_any d a x d0 d1 a0 a1 u)
  rw[hHI,hLO,hOK]at H1
  clear hHI hLO hOK HO HT HLO HHI HCF
  go_wp2_with fail
  ((with_reducible refine(H1.out _).mono ?_);rintro e w1 ⟨rfl,b1⟩)
  have HS2:=Lib.hid (HSB.out.on b1)
  clear b1
  cases OK with
  |false=>
   go_wp2_with (first
    |(refine wpList_load_mid rfl 29 (.tmp 3) rfl w.heap.size 0 rfl (staL s) _ HS2.out.range Tryz.underlying29 rfl info_sta ?_)
    |(refine store_row rfl 29 (.tmp 6) (.tmp 64) rfl R0 rfl (staL s) rfl _ Tryz.underlying29 rfl info_sta (sta_one s) HS2.out.there ?_;intro Y hY hl;have HL:=Lib.hid hl;have HY:=Lib.hid (show Below w.heap.size w Y by rw[hY];exact below_setCells (Nat.le_of_lt HS2.out.lt) _ _ _ HS2.out.bel);clear hY hl))
   exact bodyPost_ret (results_cell_tmp rfl rfl rfl HL.out) rfl ⟨by rw[←HRV.out,←HRE.out,HO1.out];rfl,HY.out⟩
  |true=>
   have c0:=(cell_block HS2.out.b 0).1
   have f0:=(cell_block HS2.out.b 0).2
   have c2:=(cell_block HS2.out.b 2).1
   have f2:=(cell_block HS2.out.b 2).2
   have c0:w1.cell? ⟨w.heap.size,0,none⟩=some (.int .u32 (s.r 0)):=c0
   have c2:w1.cell? ⟨w.heap.size,2,none⟩=some (.int .u32 (s.r 2)):=c2
   go_upto_region 15 with fail
   obtain⟨Z,hZ⟩:∃Z,Z=(w1.setCell ⟨w.heap.size,0,none⟩ (.int .u32 LO)).setCell ⟨w.heap.size,2,none⟩ (.int .u32 HI):=⟨_,rfl⟩
   rw[←hZ]
   have HQ:=Lib.hid (show SB w R0 T Z by rw[hZ];exact(HS2.out.set 0 _ (sta_put _ 0 (by decide) _)).set 2 _ ((sta_put _ 2 (by decide) _).trans (by rw[HTT.out])))
   clear hZ
   go_wp2_with (first
    |(refine wpList_load_mid rfl 29 (.tmp 3) rfl w.heap.size 0 rfl (staL T) _ HQ.out.range Tryz.underlying29 rfl info_sta ?_)
    |(refine store_row rfl 29 (.tmp 6) (.tmp 71) rfl R0 rfl (staL T) rfl _ Tryz.underlying29 rfl info_sta (sta_one T) HQ.out.there ?_;intro Y hY hl;have HL:=Lib.hid hl;have HY:=Lib.hid (show Below w.heap.size w Y by rw[hY];exact below_setCells (Nat.le_of_lt HQ.out.lt) _ _ _ HQ.out.bel);clear hY hl))
   exact bodyPost_ret (results_cell_tmp rfl rfl rfl HL.out) rfl ⟨by rw[←HRV.out,←HRE.out,HO1.out];rfl,HY.out⟩
end Go.Proofs.YtmdncgfheeijaaaGreat
