import Derived.Test.YtmdncgfheeijaaaGreatKUG24
namespace Go.Proofs.YtmdncgfheeijaaaGreat
open Go.ChangeShapes Go.WideShapes Go.ChangeAt Go.RowKit
set_option maxRecDepth 100000
def DecI(I:Ins):Prop:=(∃(L:Nat) (bs:Nat→Int),(∀i,0≤bs i∧bs i<256)∧oneF L bs=(I,0))∧isAluB I.op=true
theorem DecI.alu{I:Ins}(h:DecI I):AluD I:=by
 obtain⟨⟨L,bs,hb,h1⟩,h2⟩:=h
 exact one_alu hb h1 h2
def DoC(f:FuncId):Prop:=∀(b:Nat) (F:Nat→Prop) (g:Int→Int) (pg:Int→Bool) (cc dd:Sg) (s:Sta) (I:Ins),StaOk s→DecI I→∀w:World,PBus w b F g pg cc dd →
  Calls Tryz.prog f #[.pointer (some ⟨b,0,none⟩),staV s,insV I] w fun e w'=>∃F' pg',e=.returned (.tuple #[staV (AluT g dd s I),.int .i64 (aluE g dd s I)])∧(∀k,F' k→F k∨w.heap.size≤k)∧PBus w' b F' (aluG g dd s I) pg' cc dd∧But F w w'
def IsC(f:FuncId):Prop:=∀(op:Int) (w:World),Calls Tryz.prog f #[.int .i64 op] w fun e w'=>e=.returned (.bool (isAluB op))∧Below w.heap.size w w'
def OneC(f:FuncId):Prop:=∀(v:Value) (L:Nat) (bs:Nat→Int),(∀i,0≤bs i∧bs i<256)→L≤1099511627776→∀w:World,Slc .u8 w v L bs→Calls Tryz.prog f #[v] w fun e w'=>e=.returned (insR (oneF L bs))∧Below w.heap.size w w'
section
variable {w0 w:World} {b rb:Nat} {F R:Nat→Prop} {g h:Int→Int} {pg:Int→Bool} {c d:Sg} {l:List (Nat×List Value)} {s:Sta} {I:Ins}
theorem lab_do{f:FuncId}(HDO:DoC f)(t:Lab w0 w b F g pg rb R h c d l)(hs:StaOk s)(hI:DecI I):
  Calls Tryz.prog f #[.pointer (some ⟨b,0,none⟩),.agg (staL s).toArray,.agg (insL I).toArray] w fun e w'=>∃F' pg',e=.returned (.tuple #[.agg (staL (AluT g d s I)).toArray,.int .i64 (aluE g d s I)])∧Lab w0 w' b F' (aluG g d s I) pg' rb R h c d l:=
 (HDO b F g pg c d s I hs hI w t.two.own.bus).mono fun _ _ ⟨F',pg',he,hF,hp,hb⟩=>⟨F',pg',he,t.did hF hp hb⟩
end
def BV15(w0:World)(p rb:Nat)(R:Nat→Prop)(g h:Int→Int)(pg:Int→Bool)(c d:Sg):Nat→Value→World→Prop
 |0,x,_=>x=.pointer (some ⟨p,0,none⟩)
 |1,x,_=>x=.pointer (some ⟨rb,0,none⟩)
 |2,x,_=>x=.pointer (some ⟨rb,0,none⟩)
 |3,x,_=>x=.pointer (some ⟨rb,1,none⟩)
 |4,x,_=>x=.agg (sgL c).toArray
 |5,x,_=>x=.pointer (some ⟨rb,0,none⟩)
 |6,x,_=>x=.pointer (some ⟨rb,0,none⟩)
 |7,x,_=>x=.pointer (some ⟨rb,6,none⟩)
 |8,x,_=>x=.agg (sgL d).toArray
 |9,x,u=>∃b F,x=.pointer (some ⟨b,0,none⟩)∧TwoB w0 u b F g pg rb R h c d
 |10,x,_=>x=.pointer (some ⟨rb,0,none⟩)
 |11,x,u=>∃b F,x=.pointer (some ⟨b,0,none⟩)∧TwoB w0 u b F g pg rb R h c d
 |_,_,_=>True
theorem bv15_stays{w0:World}{p rb:Nat}{R:Nat→Prop}{g h:Int→Int}{pg:Int→Bool}{c d:Sg}(i:Nat)(v:Value)(u u':World)(hv:BV15 w0 p rb R g h pg c d i v u)(hb:Below u.heap.size u u'):BV15 w0 p rb R g h pg c d i v u':=by
 unfold BV15 at hv ⊢
 split at hv
 all_goals first
  |exact hv
  |(obtain⟨b,F,e,t⟩:=hv;exact⟨b,F,e,t.next hb⟩)
set_option maxHeartbeats 4000000
theorem boxes15_any(v:Value)(L:Nat)(bs:Nat→Int)(k:Int)(k0:0≤k)(k1:k<4294967296)(hL:L<2147483648)(hb0:∀i,0≤bs i∧bs i<256)(w:World)(hs:Slc .u8 w v L bs):
  Calls Tryz.prog 16 #[v,.int .u32 k] w fun e w'=>∃(b:Nat) (F:Nat→Prop) (pg:Int→Bool) (rb:Nat) (R:Nat→Prop),e=.returned (.tuple #[.pointer (some ⟨b,0,none⟩),.pointer (some ⟨rb,0,none⟩)])∧TwoB w w' b F (boxG bs L k) pg rb R (boxG bs L k) (boxC L) boxD:=by
 have HS:=Lib.hid hs
 have HB0:=Lib.hid hb0
 obtain⟨ad,cap,rfl⟩:=hs.len
 clear hs hb0
 go_enter Tryz.func16,Tryz.ntmps16
 go_wp2_with fail
 ((with_reducible refine(box_any _ L bs k k0 k1 hL HB0.out _ HS.out).mono ?_);rintro e w1 ⟨rb,R,rfl,hr,hro,b1⟩)
 have HR:=Lib.hid hr
 have HRO:=Lib.hid hro
 have HB1:=Lib.hid b1
 have HS1:=Lib.hid (HS.out.below b1)
 clear hr hro b1
 go_wp2_with fail
 ((with_reducible refine(min_new _ HB1.out).mono ?_);rintro e w2 ⟨p,F,rfl,hm,hF,b2⟩)
 have HT:=Lib.hid (show TwoM w w2 p F (fun _=>0) (fun _=>false) rb R (boxG bs L k) (boxC L) boxD from⟨hm,HR.out.below b2,HRO.out,fun j hj hr=>by have h1:=hF j hj;have h2:=HR.out.lt j hr;omega⟩)
 have HS2:=Lib.hid (HS1.out.below b2)
 have HO:=Lib.hid (fun(h:0<L) (j:Nat) (hj:Value.ownBlock (.slice ad L cap)=some j)=>(show ¬F j from fun hf=>by have h1:=hF j hf;have h2:=HS1.out.own_lt h j hj;omega))
 clear hm hF b2
 go_wp2_with fail
 ((with_reducible refine(two_write HT.out 20480 _ L bs (by decide) (by decide) hL HB0.out HS2.out HO.out).mono ?_);rintro e w3 ⟨F3,rfl,t3⟩)
 have HT:=Lib.hid t3
 clear t3
 go_wp2_with fail
 ((with_reducible refine(fill256_any k k0 k1 _).mono ?_);rintro e w4 ⟨vf,rfl,hown,hsf,b4⟩)
 have HOF:=Lib.hid (fun(_:0<256) (j:Nat) (hj:vf.ownBlock=some j)=>(show ¬F3 j from fun hf=>by
  rw[hown]at hj
  injection hj with hj
  have:=HT.out.own.mem.lt j hf
  omega))
 have HT:=Lib.hid (HT.out.next b4)
 have HSF:=Lib.hid hsf
 obtain⟨af,cf,rfl⟩:=hsf.len
 clear hsf b4 hown
 go_wp2_with fail
 ((with_reducible refine(two_write HT.out 36864 _ 256 (fillB k) (by decide) (by decide) (by decide) (fillB_ok k) HSF.out HOF.out).mono ?_);rintro e w5 ⟨F5,rfl,t5⟩)
 rw[show writeG (writeG (fun _=>0) 20480 bs L) 36864 (fillB k) 256=boxG bs L k from rfl]at t5
 obtain⟨pg,hpg⟩:∃pg,writeP (writeP (fun _=>false) 20480 L) 36864 256=pg:=⟨_,rfl⟩
 rw[hpg]at t5
 have HT:=Lib.hid t5
 clear t5 hpg
 go_wp2_with fail
 refine wp_region_valsT (by kernel_rfl) 12 _ rfl rfl (by kernel_rfl) (fun _=>false) (by kernel_rfl) (fun u=>TwoM w u p F5 (boxG bs L k) pg rb R (boxG bs L k) (boxC L) boxD) (fun u u'=>Below u.heap.size u u') (BV15 w p rb R (boxG bs L k) (boxG bs L k) pg (boxC L) boxD) bv15_stays (fun _=>Below.refl _ _) (HT.out.next ((Below.refl _ _).drew)) ?_ ?_
 ·intro n op c u hn ho hinv hsz hbase hdep
  have b7:c.tmps.getD 7 undef=.pointer (some ⟨p,0,none⟩):=hbase 7 (by kernel_rfl)
  have b6:c.tmps.getD 6 undef=.pointer (some ⟨rb,0,none⟩):=hbase 6 (by kernel_rfl)
  clear hbase hsz
  rcases(show n=0∨n=1∨n=2∨n=3∨n=4∨n=5∨n=6∨n=7∨n=8∨n=9∨n=10∨n=11 by omega)with rfl|rfl|rfl|rfl|rfl|rfl|rfl|rfl|rfl|rfl|rfl|rfl
  ·cases ho
   exact wp_val (by simp[execOp,Act.eval,b7,go_sem]<;>rfl) ⟨_,rfl,hinv,Below.refl _ _,rfl⟩
  ·cases ho
   exact wp_val (by simp[execOp,Act.eval,b6,go_sem]<;>rfl) ⟨_,rfl,hinv,Below.refl _ _,rfl⟩
  ·cases ho
   have e1:c.tmps.getD 20 undef=.pointer (some ⟨rb,0,none⟩):=hdep 1 (by kernel_rfl)
   exact wp_val (by simp[execOp,Act.eval,e1,go_sem]<;>rfl) ⟨_,rfl,hinv,Below.refl _ _,rfl⟩
  ·cases ho
   have e2:c.tmps.getD 21 undef=.pointer (some ⟨rb,0,none⟩):=hdep 2 (by kernel_rfl)
   exact wp_val (by simp[execOp,Act.eval,e2,go_sem]<;>rfl) ⟨_,rfl,hinv,Below.refl _ _,rfl⟩
  ·cases ho
   have e3:c.tmps.getD 22 undef=.pointer (some ⟨rb,1,none⟩):=hdep 3 (by kernel_rfl)
   have hl:=load_range (P:=Tryz.prog) (cs:=sgL (boxC L)) 57 _ Tryz.underlying57 rfl info_sg hinv.ref.code
   exact wp_val (by simp[execOp,Act.eval,e3,Instr.loadAt,Instr.sureAddr,hl]<;>rfl) ⟨_,rfl,hinv,Below.refl _ _,rfl⟩
  ·cases ho
   exact wp_val (by simp[execOp,Act.eval,b6,go_sem]<;>rfl) ⟨_,rfl,hinv,Below.refl _ _,rfl⟩
  ·cases ho
   have e5:c.tmps.getD 24 undef=.pointer (some ⟨rb,0,none⟩):=hdep 5 (by kernel_rfl)
   exact wp_val (by simp[execOp,Act.eval,e5,go_sem]<;>rfl) ⟨_,rfl,hinv,Below.refl _ _,rfl⟩
  ·cases ho
   have e6:c.tmps.getD 25 undef=.pointer (some ⟨rb,0,none⟩):=hdep 6 (by kernel_rfl)
   exact wp_val (by simp[execOp,Act.eval,e6,go_sem]<;>rfl) ⟨_,rfl,hinv,Below.refl _ _,rfl⟩
  ·cases ho
   have e7:c.tmps.getD 26 undef=.pointer (some ⟨rb,6,none⟩):=hdep 7 (by kernel_rfl)
   have hl:=load_range (P:=Tryz.prog) (cs:=sgL boxD) 57 _ Tryz.underlying57 rfl info_sg hinv.ref.data
   exact wp_val (by simp[execOp,Act.eval,e7,Instr.loadAt,Instr.sureAddr,hl]<;>rfl) ⟨_,rfl,hinv,Below.refl _ _,rfl⟩
  ·cases ho
   have e0:c.tmps.getD 19 undef=.pointer (some ⟨p,0,none⟩):=hdep 0 (by kernel_rfl)
   have e4:c.tmps.getD 23 undef=.agg (sgL (boxC L)).toArray:=hdep 4 (by kernel_rfl)
   have e8:c.tmps.getD 27 undef=.agg (sgL boxD).toArray:=hdep 8 (by kernel_rfl)
   refine wp_call (by simp[execOp,Act.eval,e0,e4,e8,go_sem]<;>rfl) ((two_new hinv).mono ?_)
   rintro e u' ⟨b,F',rfl,t,hb⟩
   exact⟨_,rfl,_,rfl,hinv.next hb,hb,b,F',rfl,t⟩
  ·cases ho
   exact wp_val (by simp[execOp,Act.eval,b6,go_sem]<;>rfl) ⟨_,rfl,hinv,Below.refl _ _,rfl⟩
  ·cases ho
   obtain⟨b,F',e9,t⟩:=hdep 9 (by kernel_rfl)
   have e9:c.tmps.getD 28 undef=.pointer (some ⟨b,0,none⟩):=e9
   exact wp_val (by simp[execOp,Act.eval,e9,go_sem]<;>rfl) ⟨_,rfl,hinv,Below.refl _ _,b,F',rfl,t⟩
 ·intro f u hinv hV
  obtain⟨b,F',q11,t⟩:=hV 11 (by decide)
  have q11:f 11=.pointer (some ⟨b,0,none⟩):=q11
  have q10:f 10=.pointer (some ⟨rb,0,none⟩):=hV 10 (by decide)
  have HT:=Lib.hid t
  generalize hc:laid _ f _ _=c
  have b4:c.tmps.getD 4 undef=.pointer (some ⟨b,0,none⟩):=by rw[←hc,←q11];kernel_rfl
  have b29:c.tmps.getD 29 undef=.pointer (some ⟨rb,0,none⟩):=by rw[←hc,←q10];kernel_rfl
  have bs':c.tmps.size=30:=by rw[←hc];kernel_rfl
  have bd:c.defers=[]:=by rw[←hc];kernel_rfl
  clear hc hV q10 q11 hinv t
  refine wp_val (v:=.pointer (some ⟨rb,0,none⟩)) (by simp[execOp,Act.eval,b29,go_sem]<;>rfl) ?_
  show Exit.then _ _ Exit.normal (c.put (some 5) (.pointer (some ⟨rb,0,none⟩))) u
  generalize hc:c.put (some 5) (Value.pointer (some ⟨rb,0,none⟩))=c'
  have b4':c'.tmps.getD 4 undef=.pointer (some ⟨b,0,none⟩):=by rw[←hc,put_other _ _ _ _ (by decide),b4]
  have b5':c'.tmps.getD 5 undef=.pointer (some ⟨rb,0,none⟩):=by rw[←hc];exact put_same _ _ _ (by rw[bs'];decide)
  have bs'':c'.tmps.size=30:=by rw[←hc,put_size,bs']
  have bd':c'.defers=[]:=by rw[←hc,put_defers,bd]
  clear hc b4 b29 bs' bd
  go_wp2_with fail
  refine bodyPost_ret (v:=.tuple #[.pointer (some ⟨b,0,none⟩),.pointer (some ⟨rb,0,none⟩)]) ?_ bd' ⟨b,F',pg,rb,R,rfl,HT.out⟩
  have hr:Tryz.f16.results=#[.tmp 4,.tmp 5]:=by kernel_rfl
  unfold results
  rw[hr]
  rw[Array.getD_eq_getD_getElem?]at b4' b5'
  simpa using⟨b4',b5'⟩
def I40:Ins:=⟨16,0,4,regO 1 0,noneO,0,false,1⟩
theorem one_40:oneF 1 (lst [64])=(I40,0):=by kernel_rfl
theorem lst_40:∀i,0≤lst [64] i∧lst [64] i<256:=lst_ok (by simp)
theorem dec_40:DecI I40:=⟨⟨1,lst [64],lst_40,one_40⟩,rfl⟩
def staC:Sta:=⟨fun _=>0,0,true,false,false,false,false,false,fun _=>0⟩
theorem staC_ok:StaOk staC:=⟨fun _ _=>⟨Int.le_refl _,(by decide:(0:Int)<4294967296)⟩,fun _ _=>⟨Int.le_refl _,(by decide:(0:Int)<18446744073709551616)⟩,⟨Int.le_refl _,(by decide:(0:Int)<4294967296)⟩⟩
theorem alu_40(g:Int→Int)(dd:Sg):aluE g dd staC I40=0∧(AluT g dd staC I40).r 0=1∧(AluT g dd staC I40).c=true∧(AluT g dd staC I40).ip=0:=⟨rfl,rfl,rfl,rfl⟩
set_option maxHeartbeats 8000000
theorem known15_any(HDO:DoC 17)(HIS:IsC 15)(HON:OneC 10)(w:World):Calls Tryz.prog 9 #[] w fun e w'=>e=.returned (.bool true)∧Below w.heap.size w w':=by
 have HO:=Lib.hid (fun v u hs=>HON v 1 (lst [64]) lst_40 (by decide) u hs)
 have HI:=Lib.hid (fun op u=>HIS op u)
 go_enter Tryz.func9,Tryz.ntmps9
 go_wp2_with fail
 ((with_reducible refine(boxes15_any (.slice none 0 0) 0 (fun _=>0) 1 (by decide) (by decide) (by decide) (fun _=>⟨by decide,by decide⟩) _ (slc_nil8 _)).mono ?_);rintro e w1 ⟨b,F,pg,rb,R,rfl,ht⟩)
 obtain⟨g,hg⟩:∃g,boxG (fun _=>0) 0 1=g:=⟨_,rfl⟩
 rw[hg]at ht
 have HL:=Lib.hid (Lab.start ht)
 clear ht hg
 go_upto_region 4 with fail
 obtain⟨W,hW⟩:∃W,W=w1.alloc (.cells (staL staC).toArray 29):=⟨_,rfl⟩
 have hW':_=W:=hW.symm
 rw[show(staL staC).toArray=#[.int .u32 0,.int .u32 0,.int .u32 0,.int .u32 0,.int .u32 0,.int .u32 0,.int .u32 0,.int .u32 0,.int .u32 0,.bool true,.bool false,.bool false,.bool false,.bool false,.bool false,.int .u64 0,.int .u64 0,.int .u64 0,.int .u64 0,.int .u64 0,.int .u64 0,.int .u64 0,.int .u64 0]from rfl]at hW'
 rw[hW']
 have HL:=Lib.hid (HL.out.lit (staL staC) 29 w1.heap.size rfl W hW)
 clear hW hW'
 go_wp2_with fail
 ((with_reducible refine(HO.out _ _ (slc_new W _ _ 1 1 _ (Nat.le_refl _) (by intro i hi;obtain rfl:i=0:=(by omega);simp[lst]))).mono ?_);rintro e w2 ⟨rfl,b2⟩)
 rw[one_40]
 have HL:=Lib.hid (HL.out.next (below_step (below_last (Below.refl _ _) _) b2))
 clear b2
 unfold insR
 rw[show insV I40=.agg (insL I40).toArray from rfl]
 have HTH:=Lib.hid (there_alloc_new w2 zeroA 34 18 (by decide))
 go_upto_region 5 with(refine store_row rfl 34 (.tmp 4) (.tmp 17) rfl w2.heap.size rfl (insL I40) rfl _ Tryz.underlying34 rfl info_ins (ins_one _) HTH.out ?_;intro Y hY hl;clear hl;have HL2:=Lib.hid (HL.out.put zeroA 34 (insL I40) rfl _ rfl Y hY);clear hY)
 go_wp2_with (first
  |(refine wpList_load_mid rfl 29 (.tmp 3) rfl w1.heap.size 0 rfl (staL staC) _ (HL2.out.at_ _ _ (by simp)) Tryz.underlying29 rfl info_sta ?_)
  |(refine wpList_load_mid rfl 34 (.tmp 4) rfl w2.heap.size 0 rfl (insL I40) _ (HL2.out.at_ _ _ (by simp)) Tryz.underlying34 rfl info_ins ?_))
 ((with_reducible refine(lab_do HDO HL2.out staC_ok dec_40).mono ?_);rintro e w3 ⟨F3,pg3,rfl,hl3⟩)
 obtain⟨e1,e2,e3,e4⟩:=alu_40 g boxD
 obtain⟨T,hT⟩:∃T,AluT g boxD staC I40=T:=⟨_,rfl⟩
 rw[hT]at e2 e3 e4
 rw[hT,e1]
 have HL3:=Lib.hid hl3
 have HE:=Lib.hid (And.intro e2 (And.intro e3 e4))
 clear hl3 hT e1 e2 e3 e4
 have HTH:=Lib.hid (there_alloc_new w3 staZA 29 23 (by decide))
 go_upto_region 6 with(refine store_row rfl 29 (.tmp 6) (.tmp 24) rfl w3.heap.size rfl (staL T) rfl _ Tryz.underlying29 rfl info_sta (sta_one T) HTH.out ?_;intro V hV hl;clear hl;have HL4:=Lib.hid (HL3.out.put staZA 29 (staL T) rfl _ rfl V hV);clear hV)
 have hr:=HL4.out.at_ w3.heap.size (staL T) (by simp)
 have q0:V.cell? ⟨w3.heap.size,0,none⟩=some (.int .u32 1):=by have:=hr 0 _ (sta_r T 0 (by decide));rwa[HE.out.1]at this
 have q9:V.cell? ⟨w3.heap.size,9,none⟩=some (.bool true):=by have:=hr 9 (.bool T.c) rfl;rwa[HE.out.2.1]at this
 have HQ8:=Lib.hid (show V.cell? ⟨w3.heap.size,8,none⟩=some (.int .u32 0)by have:=hr 8 (.int .u32 T.ip) rfl;rwa[HE.out.2.2]at this)
 have HLT:=Lib.hid (show w3.heap.size<V.heap.size from HL4.out.lt w3.heap.size (staL T) (by simp))
 have HB:=Lib.hid HL4.out.low
 clear hr HL HL2 HL3 HL4
 go_wp2_with fail
 ((with_reducible refine(HI.out 1 _).mono ?_);rintro e w5 ⟨rfl,b5⟩)
 rw[show isAluB 1=true from rfl]
 go_wp2_with fail
 ((with_reducible refine(HI.out 23 _).mono ?_);rintro e w6 ⟨rfl,b6⟩)
 rw[show isAluB 23=false from rfl]
 have q8:w6.cell? ⟨w3.heap.size,8,none⟩=some (.int .u32 0):=(b6.cell (p:=⟨w3.heap.size,8,none⟩) (Nat.lt_of_lt_of_le HLT.out b5.size)).trans ((b5.cell (p:=⟨w3.heap.size,8,none⟩) HLT.out).trans HQ8.out)
 have HB6:=Lib.hid (below_step (below_step HB.out b5) b6)
 clear b5 b6 q0 q9
 go_wp2_with fail
 go_ret
 exact⟨rfl,HB6.out⟩
theorem get_regN(s:Sta)(i:Int):getG s (⟨1,i,0,0,0,0⟩:Opd)=regN s i:=by
 unfold getG getF regN
 by_cases h:0≤i∧i≤7
 ·rw[if_pos h,if_pos h,if_neg (show ¬(1:Int)=4 by decide),if_pos h,if_pos rfl]
 ·rw[if_neg h,if_neg h]
theorem register_any(s:Sta)(i:Int)(hs:StaOk s)(w:World):Calls Tryz.prog 84 #[staV s,.int .i64 i] w fun e w'=>e=.returned (.int .u32 (regN s i))∧Below w.heap.size w w':=by
 have hlo:=regN_lo hs i
 have H:=fun u=>get_any s (⟨1,i,0,0,0,0⟩:Opd) hs (Int.le_refl _) (by show(0:Int)<_;decide) u
 obtain⟨V,hV⟩:∃V,regN s i=V:=⟨_,rfl⟩
 rw[get_regN,hV,show opV (⟨1,i,0,0,0,0⟩:Opd)=.agg #[.int .i64 1,.int .i64 i,.int .i64 0,.int .i64 0,.int .i64 0,.int .u32 0]from rfl,show staV s=.agg (staL s).toArray from rfl]at H
 rw[hV]at hlo ⊢
 obtain⟨v0,v1⟩:=hlo
 have H:=Lib.hid H
 clear hs hV
 unfold staV
 go_enter Tryz.func84,Tryz.ntmps84
 go_upto_region 1 with fail
 obtain⟨W,hW⟩:∃W,W=w.alloc (.cells (staL s).toArray 29):=⟨_,rfl⟩
 rw[←hW]
 have hb:W.heap[w.heap.size]?=some (.cells (staL s).toArray 29 (0,0)):=by rw[hW];show(w.heap.push _)[w.heap.size]?=_;simp
 have HB:=Lib.hid (show Below w.heap.size w W by rw[hW];exact below_last (Below.refl _ _) _)
 have HR:=Lib.hid (range_in13 hb 0 (staL s) rfl)
 clear hb hW
 go_wp2_with (refine wpList_load_mid rfl 29 (.tmp 2) rfl w.heap.size 0 rfl (staL s) _ HR.out Tryz.underlying29 rfl info_sta ?_)
 ((with_reducible refine(H.out _).mono ?_);rintro e w1 ⟨rfl,b1⟩)
 have HB1:=Lib.hid (below_step HB.out b1)
 clear b1
 go_wp2_with fail
 go_ret
 exact⟨rfl,HB1.out⟩
theorem of_land(x y c d:Int):((x+y*(c%4294967296)%4294967296)%4294967296+d)%4294967296=(d+x+y*c)%4294967296:=by
 rw[mul_wrap]
 generalize y*c=z
 omega
theorem of_any(s:Sta)(o:Opd)(hs:StaOk s)(w:World):Calls Tryz.prog 61 #[staV s,opV o] w fun e w'=>e=.returned (.int .u32 (ofF s o))∧Below w.heap.size w w':=by
 obtain⟨k,r,b,i,c,d⟩:=o
 have H1:=fun u=>register_any s b hs u
 have H2:=fun u=>register_any s i hs u
 obtain⟨x,hx⟩:∃x,regN s b=x:=⟨_,rfl⟩
 obtain⟨y,hy⟩:∃y,regN s i=y:=⟨_,rfl⟩
 have hA:ofF s ⟨k,r,b,i,c,d⟩=((x+y*(c%4294967296)%4294967296)%4294967296+d)%4294967296:=by
  rw[of_land,←hx,←hy]
  rfl
 rw[hA]
 rw[hx,show staV s=.agg (staL s).toArray from rfl]at H1
 rw[hy,show staV s=.agg (staL s).toArray from rfl]at H2
 clear hx hy hA hs
 obtain⟨C,hC⟩:∃C,c%4294967296=C:=⟨_,rfl⟩
 have wC:=IntKind.wrap_u32' c
 rw[hC]at wC ⊢
 obtain⟨D,hD⟩:∃D,y*C%4294967296=D:=⟨_,rfl⟩
 have wD:=IntKind.wrap_u32' (y*C)
 rw[hD]at wD ⊢
 obtain⟨E,hE⟩:∃E,(x+D)%4294967296=E:=⟨_,rfl⟩
 have wE:=IntKind.wrap_u32' (x+D)
 rw[hE]at wE ⊢
 obtain⟨A,hA⟩:∃A,(E+d)%4294967296=A:=⟨_,rfl⟩
 have wA:=IntKind.wrap_u32' (E+d)
 rw[hA]at wA ⊢
 clear hC hD hE hA
 have H1:=Lib.hid H1
 have H2:=Lib.hid H2
 unfold staV opV
 go_enter Tryz.func61,Tryz.ntmps61
 go_upto_region 1 with fail
 obtain⟨W,hW⟩:∃W,W=(w.alloc (.cells (staL s).toArray 29)).alloc (.cells #[.int .i64 k,.int .i64 r,.int .i64 b,.int .i64 i,.int .i64 c,.int .u32 d] 32):=⟨_,rfl⟩
 rw[←hW]
 have hbel:=(heap_two hW).2.2
 have HB:=Lib.hid hbel
 have HRW:=fun u hu=>rng_two (o:=⟨k,r,b,i,c,d⟩) hW (u:=u) hu
 have HRS:=Lib.hid (show ∀u,Below W.heap.size W u→u.rangeAt w.heap.size 0 (staL s)from fun u hu=>(HRW u hu).1)
 have HRO:=Lib.hid (show ∀u,Below W.heap.size W u→∀(j:Nat) (v:Value),(opL' ⟨k,r,b,i,c,d⟩)[j]?=some v→u.cell? ⟨w.heap.size+1,j,none⟩=some v from fun u hu j v hj=>by have h:=(HRW u hu).2 j v hj;rwa[Nat.zero_add]at h)
 clear HRW hW hbel
 have hne:=class_const (C:=fun u=>Below W.heap.size W u) (Below.refl W.heap.size W)
 refine wp_region_quietC (fun u=>Below W.heap.size W u) (by kernel_rfl) (by kernel_rfl) ((Below.refl _ _).drew) ?_
 go_big_quiet_want;refine quietC_load 29 (.tmp 2) w.heap.size 0 rfl (staL s) _ HRS.out Tryz.underlying29 rfl info_sta ?_;go_big_quiet_op;go_big_quiet_on
 go_big_quiet_want;go_big_quiet_op;go_big_quiet_on
 go_big_quiet_want;refine quietC_read 3 (.tmp 6) (.int .i64 b) (fun u hu=>by have:=HRO.out u hu 2 _ rfl;simp[Act.eval,go_sem,this]) ?_;go_big_quiet_op;go_big_quiet_on
 go_big_quiet_want;refine quietC_call 84 #[.tmp 5,.tmp 7] _ #[.agg (staL s).toArray,.int .i64 b] (.int .u32 x) (fun u _=>by simp[Act.eval,go_sem]) (fun u hu=>(H1.out u).mono fun _ _ ⟨h1,h2⟩=>⟨h1,below_step hu h2⟩) ?_;go_big_quiet_op;go_big_quiet_on
 go_big_quiet_want;refine quietC_load 29 (.tmp 2) w.heap.size 0 rfl (staL s) _ HRS.out Tryz.underlying29 rfl info_sta ?_;go_big_quiet_op;go_big_quiet_on
 go_big_quiet_want;go_big_quiet_op;go_big_quiet_on
 go_big_quiet_want;refine quietC_read 3 (.tmp 10) (.int .i64 i) (fun u hu=>by have:=HRO.out u hu 3 _ rfl;simp[Act.eval,go_sem,this]) ?_;go_big_quiet_op;go_big_quiet_on
 go_big_quiet_want;refine quietC_call 84 #[.tmp 9,.tmp 11] _ #[.agg (staL s).toArray,.int .i64 i] (.int .u32 y) (fun u _=>by simp[Act.eval,go_sem]) (fun u hu=>(H2.out u).mono fun _ _ ⟨h1,h2⟩=>⟨h1,below_step hu h2⟩) ?_;go_big_quiet_op;go_big_quiet_on
 go_big_quiet_want;go_big_quiet_op;go_big_quiet_on
 go_big_quiet_want;refine quietC_read 3 (.tmp 13) (.int .i64 c) (fun u hu=>by have:=HRO.out u hu 4 _ rfl;simp[Act.eval,go_sem,this]) ?_;go_big_quiet_op;go_big_quiet_on
 go_big_quiet_want;refine quietC_val _ (.int .u32 C) (fun u _=>by simp[execOp,Act.eval,go_sem,wC]) ?_;go_big_quiet_op;go_big_quiet_on
 go_big_quiet_want;refine quietC_val _ (.int .u32 D) (fun u _=>by simp[execOp,Act.eval,go_sem,wD]) ?_;go_big_quiet_op;go_big_quiet_on
 go_big_quiet_want;refine quietC_val _ (.int .u32 E) (fun u _=>by simp[execOp,Act.eval,go_sem,wE]) ?_;go_big_quiet_op;go_big_quiet_on
 go_big_quiet_want;go_big_quiet_op;go_big_quiet_on
 go_big_quiet_want;refine quietC_read 22 (.tmp 18) (.int .u32 d) (fun u hu=>by have:=HRO.out u hu 5 _ rfl;simp[Act.eval,go_sem,this]) ?_;go_big_quiet_op;go_big_quiet_on
 go_big_quiet_want;refine quietC_val _ (.int .u32 A) (fun u _=>by simp[execOp,Act.eval,go_sem,wA]) ?_;go_big_quiet_op;go_big_quiet_on
 go_big_quiet_want;go_big_quiet_op;go_big_quiet_on
 refine wpQuiet_nil ?_
 intro w5 hw5
 have HW5:=Lib.hid (below_step HB.out hw5)
 clear hw5
 go_wp2_with fail
 go_ret
 exact⟨rfl,HW5.out⟩
def aldV(g:Int→Int)(d:Sg)(s:Sta)(o:Opd)(size:Int):Int:=if o.kind=3 then ldV g d (ofF s o) size else getG s o
def aldE(d:Sg)(s:Sta)(o:Opd)(size:Int):Int:=if o.kind=3 then ldE d (ofF s o) size else 0
def astS(s:Sta)(o:Opd)(v:Int):Sta:=if o.kind=3 then s else setF s o v
def astE(d:Sg)(s:Sta)(o:Opd)(size:Int):Int:=if o.kind=3 then stE d (ofF s o) size else 0
def astG(g:Int→Int)(d:Sg)(s:Sta)(o:Opd)(size v:Int):Int→Int:=if o.kind=3 then stG g d (ofF s o) size v else g
theorem aload_any(b0:Nat)(F:Nat→Prop)(g:Int→Int)(pg:Int→Bool)(cc dd:Sg)(s:Sta)(o:Opd)(size:Int)(hs:StaOk s)(d0:0≤o.disp)(d1:o.disp<4294967296)(w:World)(hR:PBus w b0 F g pg cc dd):
  Calls Tryz.prog 122 #[.pointer (some ⟨b0,0,none⟩),staV s,opV o,.int .i64 size] w fun e w'=>e=.returned (.tuple #[.int .u64 (aldV g dd s o size),.int .i64 (aldE dd s o size)])∧Below w.heap.size w w':=by
 have HR:=Lib.hid hR
 have HOF:=Lib.hid (fun u=>of_any s o hs u)
 have HGE:=Lib.hid (fun u=>get_any s o hs d0 d1 u)
 have hlo:=ofF_lo s o
 have hhi:=ofF_hi s o
 obtain⟨A,hA⟩:∃A,ofF s o=A:=⟨_,rfl⟩
 have HV:=Lib.hid (show aldV g dd s o size=if o.kind=3 then ldV g dd A size else getG s o by rw[←hA];rfl)
 have HO:=Lib.hid (show aldE dd s o size=if o.kind=3 then ldE dd A size else 0 by rw[←hA];rfl)
 rw[hA]at HOF hlo hhi
 obtain⟨G,hG⟩:∃G,getG s o=G:=⟨_,rfl⟩
 rw[hG]at HGE HV
 obtain⟨k,r,b,i,c,d⟩:=o
 dsimp only at d0 d1 HV HO
 rw[show staV s=.agg (staL s).toArray from rfl,show opV (⟨k,r,b,i,c,d⟩:Opd)=.agg (opL' ⟨k,r,b,i,c,d⟩).toArray from rfl]at HOF HGE
 clear hs hA hG hR
 unfold staV opV
 go_enter Tryz.func122,Tryz.ntmps122
 go_upto_region 1 with fail
 obtain⟨W,hW⟩:∃W,W=(w.alloc (.cells (staL s).toArray 29)).alloc (.cells #[.int .i64 k,.int .i64 r,.int .i64 b,.int .i64 i,.int .i64 c,.int .u32 d] 32):=⟨_,rfl⟩
 rw[←hW]
 obtain⟨hS,hO,hbel⟩:=heap_two hW
 have HBEL:=Lib.hid hbel
 have HRW:=Lib.hid (fun u hu=>rng_two (o:=⟨k,r,b,i,c,d⟩) hW (u:=u) hu)
 have k0:W.cell? ⟨w.heap.size+1,0,none⟩=some (.int .i64 k):=(cell_block hO 0).1
 have HR:=Lib.hid (HR.out.but (G:=fun _=>False) (But.of_below hbel) (fun _ _ h=>h))
 clear hW hS hO hbel
 by_cases hk:k=3
 ·subst hk
  have HV:=Lib.hid (show aldV g dd s ⟨3,r,b,i,c,d⟩ size=ldV g dd A size from HV.out.trans (if_pos rfl))
  have HO:=Lib.hid (show aldE dd s ⟨3,r,b,i,c,d⟩ size=ldE dd A size from HO.out.trans (if_pos rfl))
  go_wp2_with (first
   |(refine wpList_load_mid rfl 29 (.tmp 5) rfl w.heap.size 0 rfl (staL s) _ (HRW.out _ (Below.refl _ _)).1 Tryz.underlying29 rfl info_sta ?_)
   |(refine wpList_load_mid rfl 32 (.tmp 6) rfl (w.heap.size+1) 0 rfl (opL' ⟨3,r,b,i,c,d⟩) _ (HRW.out _ (Below.refl _ _)).2 Tryz.underlying32 rfl info_opd1 ?_))
  ((with_reducible refine(HOF.out _).mono ?_);rintro e w1 ⟨rfl,b1⟩)
  have HB1:=Lib.hid b1
  have HR:=Lib.hid (HR.out.but (G:=fun _=>False) (But.of_below b1) (fun _ _ h=>h))
  clear b1
  go_wp2_with fail
  ((with_reducible refine(bload_any b0 F g pg cc dd A size hlo hhi _ HR.out).mono ?_);rintro e w2 ⟨rfl,b2⟩)
  have HB2:=Lib.hid b2
  clear b2
  obtain⟨E,hE⟩:∃E,ldE dd A size=E:=⟨_,rfl⟩
  obtain⟨X,hX⟩:∃X,ldV g dd A size=X:=⟨_,rfl⟩
  have HV:=Lib.hid (HV.out.trans hX)
  have HO:=Lib.hid (HO.out.trans hE)
  rw[hE,hX]
  clear hE hX
  go_wp2_with fail
  go_ret2
  exact⟨by rw[HV.out,HO.out];rfl,HBEL.out.trans ((HB1.out.trans (HB2.out.mono HB1.out.size)).mono HBEL.out.size)⟩
 ·have ek:(k != 3)=true:=by simpa using hk
  have ek':(k==3)=false:=by simpa using hk
  have HV:=Lib.hid (show aldV g dd s ⟨k,r,b,i,c,d⟩ size=G from HV.out.trans (if_neg hk))
  have HO:=Lib.hid (show aldE dd s ⟨k,r,b,i,c,d⟩ size=0 from HO.out.trans (if_neg hk))
  clear hk
  go_wp2_with (first
   |(refine wpList_load_mid rfl 29 (.tmp 5) rfl w.heap.size 0 rfl (staL s) _ (HRW.out _ (Below.refl _ _)).1 Tryz.underlying29 rfl info_sta ?_)
   |(refine wpList_load_mid rfl 32 (.tmp 6) rfl (w.heap.size+1) 0 rfl (opL' ⟨k,r,b,i,c,d⟩) _ (HRW.out _ (Below.refl _ _)).2 Tryz.underlying32 rfl info_opd1 ?_))
  ((with_reducible refine(HGE.out _).mono ?_);rintro e w1 ⟨rfl,b1⟩)
  have HB1:=Lib.hid b1
  clear b1
  go_wp2_with fail
  go_ret2
  exact⟨by rw[HV.out,HO.out];rfl,HBEL.out.trans (HB1.out.mono HBEL.out.size)⟩
theorem writeP_or(pg:Int→Bool)(a:Int)(n:Nat)(q:Int):writeP pg a n q=(writeP (fun _=>false) a n q || pg q):=by
 induction n with
 |zero=>rfl
 |succ n ih=>
  show(q==place a n/4096*4096 || writeP pg a n q)=((q==place a n/4096*4096 || writeP (fun _=>false) a n q) || pg q)
  rw[ih,Bool.or_assoc]
theorem writeP_twice(pg:Int→Bool)(a:Int)(n:Nat):writeP (writeP pg a n) a n=writeP pg a n:=by
 funext q
 rw[writeP_or (writeP pg a n),writeP_or pg]
 cases writeP (fun _=>false) a n q<;>rfl
theorem stP_twice(pg:Int→Bool)(d:Sg)(off size:Int):stP (stP pg d off size) d off size=stP pg d off size:=by
 unfold stP
 by_cases h:stE d off size=0
 ·rw[if_pos h,if_pos h]
  exact writeP_twice pg _ _
 ·rw[if_neg h,if_neg h]
theorem heap_3{w W:World}{o p q:Obj}(h:W=((w.alloc o).alloc p).alloc q):W.heap[w.heap.size]?=some o∧W.heap[w.heap.size+1]?=some p∧W.heap[w.heap.size+2]?=some q∧Below w.heap.size w W:=heap_three h
theorem setL_sizeA:∀(vs:List Value) (C:Array Value) (o:Nat),(setL C o vs).size=C.size
 |[],_,_=>rfl
 |v :: vs,C,o=>by unfold setL;rw[setL_sizeA vs];simp
theorem setL_appA:∀(vs pre rest:List Value),vs.length≤rest.length→setL (pre++rest).toArray pre.length vs=(pre++vs++rest.drop vs.length).toArray
 |[],pre,rest,_=>by simp[setL]
 |v :: vs,pre,[],h=>by simp at h
 |v :: vs,pre,x :: rest,h=>by
  unfold setL
  have e:(pre++x :: rest).toArray.setIfInBounds pre.length v=(pre++[v]++rest).toArray:=by simp
  rw[e,show pre.length+1=(pre++[v]).length by simp,setL_appA vs (pre++[v]) rest (by simpa using h)]
  simp
theorem setL_wholeA(s:Sta){C:Array Value}(hz:C.size=23):setL C 0 (staL s).toArray.toList=(staL s).toArray:=by
 obtain⟨l⟩:=C
 have hl:l.length=23:=hz
 have h:=setL_appA (staL s) [] l (by rw[hl];exact Nat.le_refl 23)
 rw[List.nil_append,List.nil_append,show l.drop (staL s).length=[]from List.drop_eq_nil_of_le (by rw[hl];exact Nat.le_refl 23),List.append_nil]at h
 exact h
def HasB(w u:World)(b:Nat)(F:Nat→Prop)(g:Int→Int)(pg:Int→Bool)(cc dd:Sg):Prop:=∃F',PBus u b F' g pg cc dd∧∀k,F' k→F k∨w.heap.size+3≤k
variable {w u u':World} {b0:Nat} {F:Nat→Prop} {g g':Int→Int} {pg pg':Int→Bool} {cc dd:Sg} {s:Sta} {o:Opd}
theorem HasB.below(h:HasB w u b0 F g pg cc dd)(hb:Below u.heap.size u u'):HasB w u' b0 F g pg cc dd:=
 let ⟨F',h1,h2⟩:=h;⟨F',h1.but (G:=fun _=>False) (But.of_below hb) (fun _ _ h=>h),h2⟩
theorem HasB.but{G:Nat→Prop}(h:HasB w u b0 F g pg cc dd)(hb:But G u u')(hn:∀k,F k∨w.heap.size+3≤k→¬G k):HasB w u' b0 F g pg cc dd:=
 let ⟨F',h1,h2⟩:=h;⟨F',h1.but hb (fun k hk=>hn k (h2 k hk)),h2⟩
structure SInv (w:World) (b0:Nat) (F:Nat→Prop) (g g':Int→Int) (pg pg':Int→Bool) (cc dd:Sg) (s:Sta) (o:Opd) (u:World):Prop where
 rs:u.heap[w.heap.size]?=some (.cells (staL s).toArray 29 (0,0))
 ro:u.heap[w.heap.size+1]?=some (.cells (opL' o).toArray 32 (0,0))
 res:∃C,u.heap[w.heap.size+2]?=some (.cells C 29 (0,0))∧C.size=23
 bus:HasB w u b0 F g pg cc dd∨HasB w u b0 F g' pg' cc dd
 own:∀k,F k→k<w.heap.size
 but:But F w u
theorem SInv.size(h:SInv w b0 F g g' pg pg' cc dd s o u):w.heap.size+3≤u.heap.size:=by
 obtain⟨C,hC,_⟩:=h.res
 exact(Array.getElem?_eq_some_iff.1 hC).1
theorem SInv.below(h:SInv w b0 F g g' pg pg' cc dd s o u)(hb:Below u.heap.size u u'):SInv w b0 F g g' pg pg' cc dd s o u':=by
 have k:∀{j:Nat} {x:Obj},u.heap[j]?=some x→u'.heap[j]?=some x:=fun{j x} hj=>(hb.block j (Array.getElem?_eq_some_iff.1 hj).1).trans hj
 obtain⟨C,hC,hz⟩:=h.res
 exact⟨k h.rs,k h.ro,⟨C,k hC,hz⟩,h.bus.imp (·.below hb) (·.below hb),h.own,h.but.trans (But.of_below (F:=F) hb) (fun _ _ h=>h)⟩
theorem SInv.wrote{H:Nat→Prop}(h:SInv w b0 F g g' pg pg' cc dd s o u)(hH:∀k,H k→F k∨w.heap.size+3≤k)(hr:HasB w u' b0 F g' pg' cc dd)(hb:But H u u'):SInv w b0 F g g' pg pg' cc dd s o u':=by
 have k:∀{j:Nat} {x:Obj},w.heap.size≤j→j<w.heap.size+3→u.heap[j]?=some x→u'.heap[j]?=some x:=fun{j x} hl hm hj=>(hb.block j (Array.getElem?_eq_some_iff.1 hj).1 (fun hR=>(hH j hR).elim (fun q=>by have:=h.own j q;omega) (fun q=>by omega))).trans hj
 obtain⟨C,hC,hz⟩:=h.res
 exact⟨k (by omega) (by omega) h.rs,k (by omega) (by omega) h.ro,⟨C,k (by omega) (by omega) hC,hz⟩,.inr hr,h.own,h.but.trans hb (fun j hj q=>(hH j q).elim id (fun q=>by omega))⟩
theorem SInv.stored{Y:World}{cs:List Value}(h:SInv w b0 F g g' pg pg' cc dd s o u)(hY:Y=u.setCells (w.heap.size+2) 0 cs):SInv w b0 F g g' pg pg' cc dd s o Y∧But (·=w.heap.size+2) u Y:=by
 have hbt:But (·=w.heap.size+2) u Y:=by rw[hY];exact(But.refl (·=w.heap.size+2) u).cells (fun _=>rfl) _ _
 have k:∀{j:Nat} {x:Obj},j≠w.heap.size+2→u.heap[j]?=some x→Y.heap[j]?=some x:=fun{j x} hl hj=>(hbt.block j (Array.getElem?_eq_some_iff.1 hj).1 hl).trans hj
 obtain⟨C,hC,hz⟩:=h.res
 have hn:∀k,F k∨w.heap.size+3≤k→¬k=w.heap.size+2:=fun k hk e=>hk.elim (fun q=>by have:=h.own k q;omega) (fun q=>by omega)
 refine⟨⟨k (by omega) h.rs,k (by omega) h.ro,?_,h.bus.imp (·.but hbt hn) (·.but hbt hn),h.own,?_⟩,hbt⟩
 ·rw[hY]
  exact⟨_,block_setCells cs 0 u C hC,by rw[setL_sizeA];exact hz⟩
 ·refine⟨hbt.os.trans h.but.os,hbt.tape.trans h.but.tape,hbt.output.trans h.but.output,Nat.le_trans h.but.size hbt.size,fun j hj hR=>(hbt.block j (Nat.lt_of_lt_of_le hj h.but.size) (by omega)).trans (h.but.block j hj hR)⟩
def SVA(w:World)(b0:Nat)(F:Nat→Prop)(g':Int→Int)(pg':Int→Bool)(cc dd:Sg)(s:Sta)(o:Opd)(size v A E:Int):Nat→Value→World→Prop
 |0,x,_=>x=.agg (staL s).toArray
 |1,x,_=>x=.pointer (some ⟨b0,0,none⟩)
 |2,x,_=>x=.agg (staL s).toArray
 |3,x,_=>x=.agg (opL' o).toArray
 |4,x,_=>x=.int .u32 A
 |5,x,_=>x=.int .i64 size
 |6,x,_=>x=.int .u64 v
 |7,x,u=>x=.int .i64 E∧HasB w u b0 F g' pg' cc dd
 |8,_,u=>u.heap[w.heap.size+2]?=some (.cells (staL s).toArray 29 (0,0))
 |_,_,_=>True
def SGA(w:World)(b0:Nat)(F:Nat→Prop)(g':Int→Int)(pg':Int→Bool)(cc dd:Sg)(s:Sta)(u u':World):Prop:=
 (u.heap[w.heap.size+2]?=some (.cells (staL s).toArray 29 (0,0))→u'.heap[w.heap.size+2]?=some (.cells (staL s).toArray 29 (0,0)))∧(HasB w u b0 F g' pg' cc dd→HasB w u' b0 F g' pg' cc dd)
theorem SGA.refl(w:World)(b0:Nat)(F:Nat→Prop)(g':Int→Int)(pg':Int→Bool)(cc dd:Sg)(s:Sta)(u:World):SGA w b0 F g' pg' cc dd s u u:=⟨id,id⟩
theorem SGA.below(hb:Below u.heap.size u u'):SGA w b0 F g' pg' cc dd s u u':=⟨fun h=>(hb.block _ (Array.getElem?_eq_some_iff.1 h).1).trans h,fun h=>h.below hb⟩
theorem sva_stays{size v A E:Int}(i:Nat)(x:Value)(u u':World)(h:SVA w b0 F g' pg' cc dd s o size v A E i x u)(hg:SGA w b0 F g' pg' cc dd s u u'):SVA w b0 F g' pg' cc dd s o size v A E i x u':=by
 unfold SVA at h ⊢
 split at h
 all_goals first
  |exact h
  |exact⟨h.1,hg.2 h.2⟩
  |exact hg.1 h
theorem astore_any(b0:Nat)(F:Nat→Prop)(g:Int→Int)(pg:Int→Bool)(cc dd:Sg)(s:Sta)(o:Opd)(size v:Int)(hs:StaOk s)(d0:0≤o.disp)(d1:o.disp<4294967296)(v0:0≤v)(v1:v<18446744073709551616)(w:World)(hR:PBus w b0 F g pg cc dd):
  Calls Tryz.prog 121 #[.pointer (some ⟨b0,0,none⟩),staV s,opV o,.int .i64 size,.int .u64 v] w fun e w'=>∃F' pg',e=.returned (.tuple #[staV (astS s o v),.int .i64 (astE dd s o size)])∧(∀k,F' k→F k∨w.heap.size≤k)∧PBus w' b0 F' (astG g dd s o size v) pg' cc dd∧But F w w':=by
 have HR:=Lib.hid hR
 have HOF:=Lib.hid (fun u=>of_any s o hs u)
 have HSE:=Lib.hid (fun u=>set_any s o v hs v0 v1 u)
 have hlo:=ofF_lo s o
 have hhi:=ofF_hi s o
 obtain⟨A,hA⟩:∃A,ofF s o=A:=⟨_,rfl⟩
 have HPO:=Lib.hid (show astE dd s o size=if o.kind=3 then stE dd A size else 0 by rw[←hA];rfl)
 have HPG:=Lib.hid (show astG g dd s o size v=if o.kind=3 then stG g dd A size v else g by rw[←hA];rfl)
 have HPS:=Lib.hid (show astS s o v=if o.kind=3 then s else setF s o v from rfl)
 rw[hA]at HOF hlo hhi
 obtain⟨T,hT⟩:∃T,setF s o v=T:=⟨_,rfl⟩
 rw[hT]at HSE HPS
 obtain⟨k,r,b,i,c,d⟩:=o
 dsimp only at d0 d1 HPO HPG HPS
 rw[show staV s=.agg (staL s).toArray from rfl,show opV (⟨k,r,b,i,c,d⟩:Opd)=.agg (opL' ⟨k,r,b,i,c,d⟩).toArray from rfl]at HOF
 rw[show staV s=.agg (staL s).toArray from rfl,show opV (⟨k,r,b,i,c,d⟩:Opd)=.agg (opL' ⟨k,r,b,i,c,d⟩).toArray from rfl,show staV T=.agg (staL T).toArray from rfl]at HSE
 clear hs hA hT hR
 unfold staV opV
 go_enter Tryz.func121,Tryz.ntmps121
 go_upto_region 1 with fail
 obtain⟨W,hW⟩:∃W,W=((w.alloc (.cells (staL s).toArray 29)).alloc (.cells #[.int .i64 k,.int .i64 r,.int .i64 b,.int .i64 i,.int .i64 c,.int .u32 d] 32)).alloc (.cells #[.int .u32 0,.int .u32 0,.int .u32 0,.int .u32 0,.int .u32 0,.int .u32 0,.int .u32 0,.int .u32 0,.int .u32 0,.bool false,.bool false,.bool false,.bool false,.bool false,.bool false,.int .u64 0,.int .u64 0,.int .u64 0,.int .u64 0,.int .u64 0,.int .u64 0,.int .u64 0,.int .u64 0] 29):=⟨_,rfl⟩
 rw[←hW]
 obtain⟨h1,h2,h3,hbel⟩:=heap_3 hW
 have k0:W.cell? ⟨w.heap.size+1,0,none⟩=some (.int .i64 k):=(cell_block h2 0).1
 have HP:=Lib.hid (fun g' pg'=>(show SInv w b0 F g g' pg pg' cc dd s ⟨k,r,b,i,c,d⟩ W from⟨h1,h2,⟨_,h3,rfl⟩,.inl ⟨F,HR.out.but (G:=fun _=>False) (But.of_below hbel) (fun _ _ h=>h),fun _ h=>.inl h⟩,fun j hj=>HR.out.lt j hj,But.of_below hbel⟩))
 have HBEL:=Lib.hid hbel
 clear hW h1 h2 h3 hbel
 by_cases hk:k=3
 ·subst hk
  have HPO1:=Lib.hid (HPO.out.trans (if_pos rfl))
  have HPG1:=Lib.hid (HPG.out.trans (if_pos rfl))
  have HPS1:=Lib.hid (HPS.out.trans (if_pos rfl))
  clear HPO HPG HPS
  obtain⟨g',hg'⟩:∃g',stG g dd A size v=g':=⟨_,rfl⟩
  obtain⟨pg',hpg'⟩:∃pg',stP pg dd A size=pg':=⟨_,rfl⟩
  have HTW:=Lib.hid (show stG g' dd A size v=g' by rw[←hg'];exact stG_twice g dd A size v)
  have HTP:=Lib.hid (show stP pg' dd A size=pg' by rw[←hpg'];exact stP_twice pg dd A size)
  have HG':=Lib.hid hg'
  have HGP:=Lib.hid hpg'
  rw[hg']at HPG1
  obtain⟨E,hE⟩:∃E,stE dd A size=E:=⟨_,rfl⟩
  rw[hE]at HPO1
  have HE:=Lib.hid hE
  clear hE hg' hpg'
  go_wp2_with fail
  refine wp_region_valsT (by kernel_rfl) 9 _ rfl rfl (by kernel_rfl) (fun n=>n==8) (by kernel_rfl) (SInv w b0 F g g' pg pg' cc dd s ⟨3,r,b,i,c,d⟩) (SGA w b0 F g' pg' cc dd s) (SVA w b0 F g' pg' cc dd s ⟨3,r,b,i,c,d⟩ size v A E) sva_stays (SGA.refl _ _ _ _ _ _ _ _) ((HP.out g' pg').below ((Below.refl _ _).drew)) ?_ ?_
  ·intro n op f u hn ho hinv hsz hbase hdep
   have b0':f.tmps.getD 0 undef=.pointer (some ⟨b0,0,none⟩):=hbase 0 (by kernel_rfl)
   have b3:f.tmps.getD 3 undef=.int .i64 size:=hbase 3 (by kernel_rfl)
   have b4:f.tmps.getD 4 undef=.int .u64 v:=hbase 4 (by kernel_rfl)
   have b6:f.tmps.getD 6 undef=.pointer (some ⟨w.heap.size,0,none⟩):=hbase 6 (by kernel_rfl)
   have b7:f.tmps.getD 7 undef=.pointer (some ⟨w.heap.size+1,0,none⟩):=hbase 7 (by kernel_rfl)
   have b10:f.tmps.getD 10 undef=.pointer (some ⟨w.heap.size+2,0,none⟩):=hbase 10 (by kernel_rfl)
   clear hbase hsz
   rcases(show n=0∨n=1∨n=2∨n=3∨n=4∨n=5∨n=6∨n=7∨n=8 by omega)with rfl|rfl|rfl|rfl|rfl|rfl|rfl|rfl|rfl
   ·cases ho
    have hl:=load_range (P:=Tryz.prog) (cs:=staL s) 29 _ Tryz.underlying29 rfl info_sta (range_in13 hinv.rs 0 _ rfl)
    exact wp_val (by simp[execOp,Act.eval,b6,Instr.loadAt,Instr.sureAddr,hl]<;>rfl) ⟨_,rfl,hinv,SGA.refl _ _ _ _ _ _ _ _ _,rfl⟩
   ·cases ho
    exact wp_val (by simp[execOp,Act.eval,b0',go_sem]<;>rfl) ⟨_,rfl,hinv,SGA.refl _ _ _ _ _ _ _ _ _,rfl⟩
   ·cases ho
    have hl:=load_range (P:=Tryz.prog) (cs:=staL s) 29 _ Tryz.underlying29 rfl info_sta (range_in13 hinv.rs 0 _ rfl)
    exact wp_val (by simp[execOp,Act.eval,b6,Instr.loadAt,Instr.sureAddr,hl]<;>rfl) ⟨_,rfl,hinv,SGA.refl _ _ _ _ _ _ _ _ _,rfl⟩
   ·cases ho
    have hl:=load_range (P:=Tryz.prog) (cs:=opL' ⟨3,r,b,i,c,d⟩) 32 _ Tryz.underlying32 rfl info_opd1 (range_in13 hinv.ro 0 _ rfl)
    exact wp_val (by simp[execOp,Act.eval,b7,Instr.loadAt,Instr.sureAddr,hl]<;>rfl) ⟨_,rfl,hinv,SGA.refl _ _ _ _ _ _ _ _ _,rfl⟩
   ·cases ho
    have e2:f.tmps.getD 22 undef=.agg (staL s).toArray:=hdep 2 (by kernel_rfl)
    have e3:f.tmps.getD 23 undef=.agg (opL' ⟨3,r,b,i,c,d⟩).toArray:=hdep 3 (by kernel_rfl)
    refine wp_call (by simp[execOp,Act.eval,e2,e3,go_sem]<;>rfl) ((HOF.out u).mono ?_)
    rintro e u' ⟨rfl,hb⟩
    exact⟨_,rfl,_,rfl,hinv.below hb,SGA.below hb,rfl⟩
   ·cases ho
    exact wp_val (by simp[execOp,Act.eval,b3,go_sem]<;>rfl) ⟨_,rfl,hinv,SGA.refl _ _ _ _ _ _ _ _ _,rfl⟩
   ·cases ho
    exact wp_val (by simp[execOp,Act.eval,b4,go_sem]<;>rfl) ⟨_,rfl,hinv,SGA.refl _ _ _ _ _ _ _ _ _,rfl⟩
   ·cases ho
    have e1:f.tmps.getD 21 undef=.pointer (some ⟨b0,0,none⟩):=hdep 1 (by kernel_rfl)
    have e4:f.tmps.getD 24 undef=.int .u32 A:=hdep 4 (by kernel_rfl)
    have e5:f.tmps.getD 25 undef=.int .i64 size:=hdep 5 (by kernel_rfl)
    have e6:f.tmps.getD 26 undef=.int .u64 v:=hdep 6 (by kernel_rfl)
    have hst:Calls Tryz.prog 142 #[.pointer (some ⟨b0,0,none⟩),.int .u32 A,.int .i64 size,.int .u64 v] u fun e u'=>∃H,e=.returned (.int .i64 E)∧(∀k,H k→F k∨w.heap.size+3≤k)∧HasB w u' b0 F g' pg' cc dd∧But H u u':=by
     have hz:=hinv.size
     rcases hinv.bus with hb|hb
     ·obtain⟨H,hp,hH⟩:=hb
      have h:=bstore_any b0 H g pg cc dd A size v hlo hhi v0 v1 u hp
      rw[HE.out,HG'.out,HGP.out]at h
      exact h.mono fun e u' ⟨F',he,hF,hq,hbt⟩=>⟨H,he,hH,⟨F',hq,fun k hk=>(hF k hk).elim (hH k) (fun q=>.inr (by omega))⟩,hbt⟩
     ·obtain⟨H,hp,hH⟩:=hb
      have h:=bstore_any b0 H g' pg' cc dd A size v hlo hhi v0 v1 u hp
      rw[HE.out,HTW.out,HTP.out]at h
      exact h.mono fun e u' ⟨F',he,hF,hq,hbt⟩=>⟨H,he,hH,⟨F',hq,fun k hk=>(hF k hk).elim (hH k) (fun q=>.inr (by omega))⟩,hbt⟩
    refine wp_call (by simp[execOp,Act.eval,e1,e4,e5,e6,go_sem]<;>rfl) (hst.mono ?_)
    rintro e u' ⟨H,rfl,hH,hr,hb⟩
    exact⟨_,rfl,_,rfl,hinv.wrote hH hr hb,⟨fun h=>(hb.block _ (Array.getElem?_eq_some_iff.1 h).1 (fun hR=>(hH _ hR).elim (fun q=>by have:=hinv.own _ q;omega) (fun q=>by omega))).trans h,fun _=>hr⟩,rfl,hr⟩
   ·cases ho
    have e0:f.tmps.getD 20 undef=.agg (staL s).toArray:=hdep 0 (by kernel_rfl)
    obtain⟨C,hC,hz⟩:=hinv.res
    refine wp_store_mid 29 (.tmp 10) (.tmp 20) rfl (w.heap.size+2) 0 (staL s).toArray b10 e0 (there_block hC 0 23 (by omega)) info_sta (sta_one s) ?_
    obtain⟨hi,hbt⟩:=hinv.stored (cs:=(staL s).toArray.toList) rfl
    refine⟨undef,rfl,hi,⟨fun _=>?_,fun h=>h.but hbt (fun j hj e=>hj.elim (fun q=>by have:=hinv.own j q;omega) (fun q=>by omega))⟩,?_⟩
    all_goals
     have h:=block_setCells (T:=29) (staL s).toArray.toList 0 u C hC
     rw[setL_wholeA s hz]at h
     exact h
  ·intro f u hinv hV
   obtain⟨q7,hbus⟩:=hV 7 (by decide)
   have q7:f 7=.int .i64 E:=q7
   have hres:=hV 8 (by decide)
   generalize hc:laid _ f _ _=fr
   have b27:fr.tmps.getD 27 undef=.int .i64 E:=by rw[←hc,←q7];kernel_rfl
   have b10:fr.tmps.getD 10 undef=.pointer (some ⟨w.heap.size+2,0,none⟩):=by rw[←hc];kernel_rfl
   have bs:fr.tmps.size=28:=by rw[←hc];kernel_rfl
   have bd:fr.defers=[]:=by rw[←hc];kernel_rfl
   have HB:=Lib.hid hbus
   have HBT:=Lib.hid hinv.but
   have hl:=load_range (P:=Tryz.prog) (cs:=staL s) 29 _ Tryz.underlying29 rfl info_sta (range_in13 hres 0 _ rfl)
   have HL:=Lib.hid hl
   clear hc hV q7 hinv hbus hres hl
   refine wp_val (v:=.int .i64 E) (by simp[execOp,Act.eval,b27,go_sem]<;>rfl) ?_
   show Exit.then _ _ Exit.normal (fr.put (some 11) (.int .i64 E)) u
   generalize hc:fr.put (some 11) (Value.int IntKind.i64 E)=f2
   have b10':f2.tmps.getD 10 undef=.pointer (some ⟨w.heap.size+2,0,none⟩):=by rw[←hc,put_other _ _ _ _ (by decide),b10]
   have b11':f2.tmps.getD 11 undef=.int .i64 E:=by rw[←hc];exact put_same _ _ _ (by rw[bs];decide)
   have bd':f2.defers=[]:=by rw[←hc,put_defers,bd]
   clear hc b27 b10 bs bd
   go_wp2_with fail
   obtain⟨F',hp,hF⟩:=HB.out
   exact bodyPost_ret (results_cell_tmp rfl b10' b11' HL.out) bd' ⟨F',pg',by rw[HPO1.out,HPS1.out],fun k hk=>(hF k hk).imp id (fun q=>by omega),by rw[HPG1.out];exact hp,HBT.out⟩
 ·have ek:(k != 3)=true:=by simpa using hk
  have ek':(k==3)=false:=by simpa using hk
  have HPO:=Lib.hid (HPO.out.trans (if_neg hk))
  have HPG:=Lib.hid (HPG.out.trans (if_neg hk))
  have HPS:=Lib.hid (HPS.out.trans (if_neg hk))
  clear hk
  have HW:=Lib.hid (HP.out g pg)
  go_wp2_with (first
   |(refine wpList_load_mid rfl 29 (.tmp 6) rfl w.heap.size 0 rfl (staL s) _ (range_in13 HW.out.rs 0 _ rfl) Tryz.underlying29 rfl info_sta ?_)
   |(refine wpList_load_mid rfl 32 (.tmp 7) rfl (w.heap.size+1) 0 rfl (opL' ⟨k,r,b,i,c,d⟩) _ (range_in13 HW.out.ro 0 _ rfl) Tryz.underlying32 rfl info_opd1 ?_))
  ((with_reducible refine(HSE.out _).mono ?_);rintro e w1 ⟨rfl,b1⟩)
  have HP1:=Lib.hid (HW.out.below b1)
  have HTH:=Lib.hid (show w1.there (w.heap.size+2) 0 23 by obtain⟨C,hC,hz⟩:=HP1.out.res;exact there_block hC 0 23 (by omega))
  clear b1
  go_wp2_with (refine store_row rfl 29 (.tmp 10) (.tmp 17) rfl (w.heap.size+2) rfl (staL T) rfl _ Tryz.underlying29 rfl info_sta (sta_one T) HTH.out ?_;intro Y hY hl;have HL:=Lib.hid hl;have HY:=Lib.hid (HP1.out.stored hY).1;clear hY hl)
  obtain⟨F',hp,hF⟩:=HY.out.bus.elim id id
  exact bodyPost_ret (results_cell_tmp rfl rfl rfl HL.out) rfl ⟨F',pg,by rw[HPO.out,HPS.out];rfl,fun k hk=>(hF k hk).imp id (fun q=>by omega),by rw[HPG.out];exact hp,HY.out.but⟩
end Go.Proofs.YtmdncgfheeijaaaGreat
