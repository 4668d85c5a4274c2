import Derived.Test.YtmdncgfheeijaaaGreatKVG11
import Derived.Test.YtmdncgfheeijaaaGreatKVG24
namespace Go.Proofs.YtmdncgfheeijaaaGreat
open Go.ChangeShapes Go.WideShapes Go.ChangeAt Go.RowKit
set_option maxRecDepth 100000
def DecI(I:Ins):Prop:=(∃(L:Nat) (bs:Nat→Int),(∀i,0≤bs i∧bs i<256)∧oneF L bs=(I,0))∧isAluB I.op=true
theorem DecI.alu{I:Ins}(h:DecI I):AluD I:=by
 obtain⟨⟨L,bs,hb,h1⟩,h2⟩:=h
 exact one_alu hb h1 h2
def DoC(f:FuncId):Prop:=∀(b:Nat) (F:Nat→Prop) (g:Int→Int) (pg:Int→Bool) (cc dd:Sg) (s:Sta) (I:Ins),StaOk s→DecI I→∀w:World,PBus w b F g pg cc dd →
  Calls Tryz.prog f #[.pointer (some ⟨b,0,none⟩),staV s,insV I] w fun e w'=>∃F' pg',e=.returned (.tuple #[staV (AluT g dd s I),.int .i64 (aluE g dd s I)])∧(∀k,F' k→F k∨w.heap.size≤k)∧PBus w' b F' (aluG g dd s I) pg' cc dd∧But F w w'
def IsC(f:FuncId):Prop:=∀(op:Int) (w:World),Calls Tryz.prog f #[.int .i64 op] w fun e w'=>e=.returned (.bool (isAluB op))∧Below w.heap.size w w'
def OneC(f:FuncId):Prop:=∀(v:Value) (L:Nat) (bs:Nat→Int),(∀i,0≤bs i∧bs i<256)→L≤1099511627776→∀w:World,Slc .u8 w v L bs→Calls Tryz.prog f #[v] w fun e w'=>e=.returned (insR (oneF L bs))∧Below w.heap.size w w'
def RAluC(f:FuncId):Prop:=∀(rb:Nat) (R:Nat→Prop) (g:Int→Int) (cc dd:Sg) (s:Sta) (I:Ins),StaOk s→(0≤I.a.disp∧I.a.disp<4294967296)→(0≤I.b.disp∧I.b.disp<4294967296)→(0≤I.c∧I.c<4294967296)→∀w:World,RBus w rb R g cc dd →
  Calls Tryz.prog f #[.pointer (some ⟨rb,0,none⟩),staV s,insV I] w fun e w'=>e=.returned (.tuple #[staV (AluT g dd s I),.int .i64 (aluE g dd s I)])∧RBus w' rb R (aluG g dd s I) cc dd∧But R w w'
section
variable {w0 w:World} {b rb:Nat} {F R:Nat→Prop} {g h:Int→Int} {pg:Int→Bool} {c d:Sg} {l:List (Nat×List Value)} {s:Sta} {I:Ins}
theorem lab_do{f:FuncId}(HDO:DoC f)(t:Lab w0 w b F g pg rb R h c d l)(hs:StaOk s)(hI:DecI I):
  Calls Tryz.prog f #[.pointer (some ⟨b,0,none⟩),.agg (staL s).toArray,.agg (insL I).toArray] w fun e w'=>∃F' pg',e=.returned (.tuple #[.agg (staL (AluT g d s I)).toArray,.int .i64 (aluE g d s I)])∧Lab w0 w' b F' (aluG g d s I) pg' rb R h c d l:=
 (HDO b F g pg c d s I hs hI w t.two.own.bus).mono fun _ _ ⟨F',pg',he,hF,hp,hb⟩=>⟨F',pg',he,t.did hF hp hb⟩
theorem lab_ralu{f:FuncId}(HAL:RAluC f)(t:Lab w0 w b F g pg rb R h c d l)(hs:StaOk s)(hI:DecI I):
  Calls Tryz.prog f #[.pointer (some ⟨rb,0,none⟩),.agg (staL s).toArray,.agg (insL I).toArray] w fun e w'=>e=.returned (.tuple #[.agg (staL (AluT h d s I)).toArray,.int .i64 (aluE h d s I)])∧Lab w0 w' b F g pg rb R (aluG h d s I) c d l:=
 have hD:=hI.alu
 have ho:=hD.opds
 (HAL rb R h c d s I hs ho.1.2 ho.2.2 hD.c w t.two.ref).mono fun _ _ ⟨he,hr,hb⟩=>⟨he,t.ruled hr hb⟩
end
def BV15(w0:World)(p rb:Nat)(R:Nat→Prop)(g h:Int→Int)(pg:Int→Bool)(c d:Sg):Nat→Value→World→Prop
 |0,x,_=>x=.pointer (some ⟨p,0,none⟩)
 |1,x,_=>x=.pointer (some ⟨rb,0,none⟩)
 |2,x,_=>x=.pointer (some ⟨rb,0,none⟩)
 |3,x,_=>x=.pointer (some ⟨rb,1,none⟩)
 |4,x,_=>x=.agg (sgL c).toArray
 |5,x,_=>x=.pointer (some ⟨rb,0,none⟩)
 |6,x,_=>x=.pointer (some ⟨rb,0,none⟩)
 |7,x,_=>x=.pointer (some ⟨rb,6,none⟩)
 |8,x,_=>x=.agg (sgL d).toArray
 |9,x,u=>∃b F,x=.pointer (some ⟨b,0,none⟩)∧TwoB w0 u b F g pg rb R h c d
 |10,x,_=>x=.pointer (some ⟨rb,0,none⟩)
 |11,x,u=>∃b F,x=.pointer (some ⟨b,0,none⟩)∧TwoB w0 u b F g pg rb R h c d
 |_,_,_=>True
theorem bv15_stays{w0:World}{p rb:Nat}{R:Nat→Prop}{g h:Int→Int}{pg:Int→Bool}{c d:Sg}(i:Nat)(v:Value)(u u':World)(hv:BV15 w0 p rb R g h pg c d i v u)(hb:Below u.heap.size u u'):BV15 w0 p rb R g h pg c d i v u':=by
 unfold BV15 at hv ⊢
 split at hv
 all_goals first
  |exact hv
  |(obtain⟨b,F,e,t⟩:=hv;exact⟨b,F,e,t.next hb⟩)
set_option maxHeartbeats 4000000
theorem boxes15_any(v:Value)(L:Nat)(bs:Nat→Int)(k:Int)(k0:0≤k)(k1:k<4294967296)(hL:L<2147483648)(hb0:∀i,0≤bs i∧bs i<256)(w:World)(hs:Slc .u8 w v L bs):
  Calls Tryz.prog 16 #[v,.int .u32 k] w fun e w'=>∃(b:Nat) (F:Nat→Prop) (pg:Int→Bool) (rb:Nat) (R:Nat→Prop),e=.returned (.tuple #[.pointer (some ⟨b,0,none⟩),.pointer (some ⟨rb,0,none⟩)])∧TwoB w w' b F (boxG bs L k) pg rb R (boxG bs L k) (boxC L) boxD:=by
 have HS:=Lib.hid hs
 have HB0:=Lib.hid hb0
 obtain⟨ad,cap,rfl⟩:=hs.len
 clear hs hb0
 go_enter Tryz.func16,Tryz.ntmps16
 go_wp2_with fail
 ((with_reducible refine(box_any _ L bs k k0 k1 hL HB0.out _ HS.out).mono ?_);rintro e w1 ⟨rb,R,rfl,hr,hro,b1⟩)
 have HR:=Lib.hid hr
 have HRO:=Lib.hid hro
 have HB1:=Lib.hid b1
 have HS1:=Lib.hid (HS.out.below b1)
 clear hr hro b1
 go_wp2_with fail
 ((with_reducible refine(min_new _ HB1.out).mono ?_);rintro e w2 ⟨p,F,rfl,hm,hF,b2⟩)
 have HT:=Lib.hid (show TwoM w w2 p F (fun _=>0) (fun _=>false) rb R (boxG bs L k) (boxC L) boxD from⟨hm,HR.out.below b2,HRO.out,fun j hj hr=>by have h1:=hF j hj;have h2:=HR.out.lt j hr;omega⟩)
 have HS2:=Lib.hid (HS1.out.below b2)
 have HO:=Lib.hid (fun(h:0<L) (j:Nat) (hj:Value.ownBlock (.slice ad L cap)=some j)=>(show ¬F j from fun hf=>by have h1:=hF j hf;have h2:=HS1.out.own_lt h j hj;omega))
 clear hm hF b2
 go_wp2_with fail
 ((with_reducible refine(two_write HT.out 20480 _ L bs (by decide) (by decide) hL HB0.out HS2.out HO.out).mono ?_);rintro e w3 ⟨F3,rfl,t3⟩)
 have HT:=Lib.hid t3
 clear t3
 go_wp2_with fail
 ((with_reducible refine(fill256_any k k0 k1 _).mono ?_);rintro e w4 ⟨vf,rfl,hown,hsf,b4⟩)
 have HOF:=Lib.hid (fun(_:0<256) (j:Nat) (hj:vf.ownBlock=some j)=>(show ¬F3 j from fun hf=>by
  rw[hown]at hj
  injection hj with hj
  have:=HT.out.own.mem.lt j hf
  omega))
 have HT:=Lib.hid (HT.out.next b4)
 have HSF:=Lib.hid hsf
 obtain⟨af,cf,rfl⟩:=hsf.len
 clear hsf b4 hown
 go_wp2_with fail
 ((with_reducible refine(two_write HT.out 36864 _ 256 (fillB k) (by decide) (by decide) (by decide) (fillB_ok k) HSF.out HOF.out).mono ?_);rintro e w5 ⟨F5,rfl,t5⟩)
 rw[show writeG (writeG (fun _=>0) 20480 bs L) 36864 (fillB k) 256=boxG bs L k from rfl]at t5
 obtain⟨pg,hpg⟩:∃pg,writeP (writeP (fun _=>false) 20480 L) 36864 256=pg:=⟨_,rfl⟩
 rw[hpg]at t5
 have HT:=Lib.hid t5
 clear t5 hpg
 go_wp2_with fail
 refine wp_region_valsT (by kernel_rfl) 12 _ rfl rfl (by kernel_rfl) (fun _=>false) (by kernel_rfl) (fun u=>TwoM w u p F5 (boxG bs L k) pg rb R (boxG bs L k) (boxC L) boxD) (fun u u'=>Below u.heap.size u u') (BV15 w p rb R (boxG bs L k) (boxG bs L k) pg (boxC L) boxD) bv15_stays (fun _=>Below.refl _ _) (HT.out.next ((Below.refl _ _).drew)) ?_ ?_
 ·intro n op c u hn ho hinv hsz hbase hdep
  have b7:c.tmps.getD 7 undef=.pointer (some ⟨p,0,none⟩):=hbase 7 (by kernel_rfl)
  have b6:c.tmps.getD 6 undef=.pointer (some ⟨rb,0,none⟩):=hbase 6 (by kernel_rfl)
  clear hbase hsz
  rcases(show n=0∨n=1∨n=2∨n=3∨n=4∨n=5∨n=6∨n=7∨n=8∨n=9∨n=10∨n=11 by omega)with rfl|rfl|rfl|rfl|rfl|rfl|rfl|rfl|rfl|rfl|rfl|rfl
  ·cases ho
   exact wp_val (by simp[execOp,Act.eval,b7,go_sem]<;>rfl) ⟨_,rfl,hinv,Below.refl _ _,rfl⟩
  ·cases ho
   exact wp_val (by simp[execOp,Act.eval,b6,go_sem]<;>rfl) ⟨_,rfl,hinv,Below.refl _ _,rfl⟩
  ·cases ho
   have e1:c.tmps.getD 20 undef=.pointer (some ⟨rb,0,none⟩):=hdep 1 (by kernel_rfl)
   exact wp_val (by simp[execOp,Act.eval,e1,go_sem]<;>rfl) ⟨_,rfl,hinv,Below.refl _ _,rfl⟩
  ·cases ho
   have e2:c.tmps.getD 21 undef=.pointer (some ⟨rb,0,none⟩):=hdep 2 (by kernel_rfl)
   exact wp_val (by simp[execOp,Act.eval,e2,go_sem]<;>rfl) ⟨_,rfl,hinv,Below.refl _ _,rfl⟩
  ·cases ho
   have e3:c.tmps.getD 22 undef=.pointer (some ⟨rb,1,none⟩):=hdep 3 (by kernel_rfl)
   have hl:=load_range (P:=Tryz.prog) (cs:=sgL (boxC L)) 57 _ Tryz.underlying57 rfl info_sg hinv.ref.code
   exact wp_val (by simp[execOp,Act.eval,e3,Instr.loadAt,Instr.sureAddr,hl]<;>rfl) ⟨_,rfl,hinv,Below.refl _ _,rfl⟩
  ·cases ho
   exact wp_val (by simp[execOp,Act.eval,b6,go_sem]<;>rfl) ⟨_,rfl,hinv,Below.refl _ _,rfl⟩
  ·cases ho
   have e5:c.tmps.getD 24 undef=.pointer (some ⟨rb,0,none⟩):=hdep 5 (by kernel_rfl)
   exact wp_val (by simp[execOp,Act.eval,e5,go_sem]<;>rfl) ⟨_,rfl,hinv,Below.refl _ _,rfl⟩
  ·cases ho
   have e6:c.tmps.getD 25 undef=.pointer (some ⟨rb,0,none⟩):=hdep 6 (by kernel_rfl)
   exact wp_val (by simp[execOp,Act.eval,e6,go_sem]<;>rfl) ⟨_,rfl,hinv,Below.refl _ _,rfl⟩
  ·cases ho
   have e7:c.tmps.getD 26 undef=.pointer (some ⟨rb,6,none⟩):=hdep 7 (by kernel_rfl)
   have hl:=load_range (P:=Tryz.prog) (cs:=sgL boxD) 57 _ Tryz.underlying57 rfl info_sg hinv.ref.data
   exact wp_val (by simp[execOp,Act.eval,e7,Instr.loadAt,Instr.sureAddr,hl]<;>rfl) ⟨_,rfl,hinv,Below.refl _ _,rfl⟩
  ·cases ho
   have e0:c.tmps.getD 19 undef=.pointer (some ⟨p,0,none⟩):=hdep 0 (by kernel_rfl)
   have e4:c.tmps.getD 23 undef=.agg (sgL (boxC L)).toArray:=hdep 4 (by kernel_rfl)
   have e8:c.tmps.getD 27 undef=.agg (sgL boxD).toArray:=hdep 8 (by kernel_rfl)
   refine wp_call (by simp[execOp,Act.eval,e0,e4,e8,go_sem]<;>rfl) ((two_new hinv).mono ?_)
   rintro e u' ⟨b,F',rfl,t,hb⟩
   exact⟨_,rfl,_,rfl,hinv.next hb,hb,b,F',rfl,t⟩
  ·cases ho
   exact wp_val (by simp[execOp,Act.eval,b6,go_sem]<;>rfl) ⟨_,rfl,hinv,Below.refl _ _,rfl⟩
  ·cases ho
   obtain⟨b,F',e9,t⟩:=hdep 9 (by kernel_rfl)
   have e9:c.tmps.getD 28 undef=.pointer (some ⟨b,0,none⟩):=e9
   exact wp_val (by simp[execOp,Act.eval,e9,go_sem]<;>rfl) ⟨_,rfl,hinv,Below.refl _ _,b,F',rfl,t⟩
 ·intro f u hinv hV
  obtain⟨b,F',q11,t⟩:=hV 11 (by decide)
  have q11:f 11=.pointer (some ⟨b,0,none⟩):=q11
  have q10:f 10=.pointer (some ⟨rb,0,none⟩):=hV 10 (by decide)
  have HT:=Lib.hid t
  generalize hc:laid _ f _ _=c
  have b4:c.tmps.getD 4 undef=.pointer (some ⟨b,0,none⟩):=by rw[←hc,←q11];kernel_rfl
  have b29:c.tmps.getD 29 undef=.pointer (some ⟨rb,0,none⟩):=by rw[←hc,←q10];kernel_rfl
  have bs':c.tmps.size=30:=by rw[←hc];kernel_rfl
  have bd:c.defers=[]:=by rw[←hc];kernel_rfl
  clear hc hV q10 q11 hinv t
  refine wp_val (v:=.pointer (some ⟨rb,0,none⟩)) (by simp[execOp,Act.eval,b29,go_sem]<;>rfl) ?_
  show Exit.then _ _ Exit.normal (c.put (some 5) (.pointer (some ⟨rb,0,none⟩))) u
  generalize hc:c.put (some 5) (Value.pointer (some ⟨rb,0,none⟩))=c'
  have b4':c'.tmps.getD 4 undef=.pointer (some ⟨b,0,none⟩):=by rw[←hc,put_other _ _ _ _ (by decide),b4]
  have b5':c'.tmps.getD 5 undef=.pointer (some ⟨rb,0,none⟩):=by rw[←hc];exact put_same _ _ _ (by rw[bs'];decide)
  have bs'':c'.tmps.size=30:=by rw[←hc,put_size,bs']
  have bd':c'.defers=[]:=by rw[←hc,put_defers,bd]
  clear hc b4 b29 bs' bd
  go_wp2_with fail
  refine bodyPost_ret (v:=.tuple #[.pointer (some ⟨b,0,none⟩),.pointer (some ⟨rb,0,none⟩)]) ?_ bd' ⟨b,F',pg,rb,R,rfl,HT.out⟩
  have hr:Tryz.f16.results=#[.tmp 4,.tmp 5]:=by kernel_rfl
  unfold results
  rw[hr]
  rw[Array.getD_eq_getD_getElem?]at b4' b5'
  simpa using⟨b4',b5'⟩
def I40:Ins:=⟨16,0,4,regO 1 0,noneO,0,false,1⟩
theorem one_40:oneF 1 (lst [64])=(I40,0):=by kernel_rfl
theorem lst_40:∀i,0≤lst [64] i∧lst [64] i<256:=lst_ok (by simp)
theorem dec_40:DecI I40:=⟨⟨1,lst [64],lst_40,one_40⟩,rfl⟩
def staC:Sta:=⟨fun _=>0,0,true,false,false,false,false,false,fun _=>0⟩
theorem staC_ok:StaOk staC:=⟨fun _ _=>⟨Int.le_refl _,(by decide:(0:Int)<4294967296)⟩,fun _ _=>⟨Int.le_refl _,(by decide:(0:Int)<18446744073709551616)⟩,⟨Int.le_refl _,(by decide:(0:Int)<4294967296)⟩⟩
theorem alu_40(g:Int→Int)(dd:Sg):aluE g dd staC I40=0∧(AluT g dd staC I40).r 0=1∧(AluT g dd staC I40).c=true∧(AluT g dd staC I40).ip=0:=⟨rfl,rfl,rfl,rfl⟩
set_option maxHeartbeats 8000000
theorem known15_any(HDO:DoC 17)(HIS:IsC 15)(HON:OneC 10)(w:World):Calls Tryz.prog 9 #[] w fun e w'=>e=.returned (.bool true)∧Below w.heap.size w w':=by
 have HO:=Lib.hid (fun v u hs=>HON v 1 (lst [64]) lst_40 (by decide) u hs)
 have HI:=Lib.hid (fun op u=>HIS op u)
 go_enter Tryz.func9,Tryz.ntmps9
 go_wp2_with fail
 ((with_reducible refine(boxes15_any (.slice none 0 0) 0 (fun _=>0) 1 (by decide) (by decide) (by decide) (fun _=>⟨by decide,by decide⟩) _ (slc_nil8 _)).mono ?_);rintro e w1 ⟨b,F,pg,rb,R,rfl,ht⟩)
 obtain⟨g,hg⟩:∃g,boxG (fun _=>0) 0 1=g:=⟨_,rfl⟩
 rw[hg]at ht
 have HL:=Lib.hid (Lab.start ht)
 clear ht hg
 go_upto_region 4 with fail
 obtain⟨W,hW⟩:∃W,W=w1.alloc (.cells (staL staC).toArray 29):=⟨_,rfl⟩
 have hW':_=W:=hW.symm
 rw[show(staL staC).toArray=#[.int .u32 0,.int .u32 0,.int .u32 0,.int .u32 0,.int .u32 0,.int .u32 0,.int .u32 0,.int .u32 0,.int .u32 0,.bool true,.bool false,.bool false,.bool false,.bool false,.bool false,.int .u64 0,.int .u64 0,.int .u64 0,.int .u64 0,.int .u64 0,.int .u64 0,.int .u64 0,.int .u64 0]from rfl]at hW'
 rw[hW']
 have HL:=Lib.hid (HL.out.lit (staL staC) 29 w1.heap.size rfl W hW)
 clear hW hW'
 go_wp2_with fail
 ((with_reducible refine(HO.out _ _ (slc_new W _ _ 1 1 _ (Nat.le_refl _) (by intro i hi;obtain rfl:i=0:=(by omega);simp[lst]))).mono ?_);rintro e w2 ⟨rfl,b2⟩)
 rw[one_40]
 have HL:=Lib.hid (HL.out.next (below_step (below_last (Below.refl _ _) _) b2))
 clear b2
 unfold insR
 rw[show insV I40=.agg (insL I40).toArray from rfl]
 have HTH:=Lib.hid (there_alloc_new w2 zeroA 34 18 (by decide))
 go_upto_region 5 with(refine store_row rfl 34 (.tmp 4) (.tmp 17) rfl w2.heap.size rfl (insL I40) rfl _ Tryz.underlying34 rfl info_ins (ins_one _) HTH.out ?_;intro Y hY hl;clear hl;have HL2:=Lib.hid (HL.out.put zeroA 34 (insL I40) rfl _ rfl Y hY);clear hY)
 go_wp2_with (first
  |(refine wpList_load_mid rfl 29 (.tmp 3) rfl w1.heap.size 0 rfl (staL staC) _ (HL2.out.at_ _ _ (by simp)) Tryz.underlying29 rfl info_sta ?_)
  |(refine wpList_load_mid rfl 34 (.tmp 4) rfl w2.heap.size 0 rfl (insL I40) _ (HL2.out.at_ _ _ (by simp)) Tryz.underlying34 rfl info_ins ?_))
 ((with_reducible refine(lab_do HDO HL2.out staC_ok dec_40).mono ?_);rintro e w3 ⟨F3,pg3,rfl,hl3⟩)
 obtain⟨e1,e2,e3,e4⟩:=alu_40 g boxD
 obtain⟨T,hT⟩:∃T,AluT g boxD staC I40=T:=⟨_,rfl⟩
 rw[hT]at e2 e3 e4
 rw[hT,e1]
 have HL3:=Lib.hid hl3
 have HE:=Lib.hid (And.intro e2 (And.intro e3 e4))
 clear hl3 hT e1 e2 e3 e4
 have HTH:=Lib.hid (there_alloc_new w3 staZA 29 23 (by decide))
 go_upto_region 6 with(refine store_row rfl 29 (.tmp 6) (.tmp 24) rfl w3.heap.size rfl (staL T) rfl _ Tryz.underlying29 rfl info_sta (sta_one T) HTH.out ?_;intro V hV hl;clear hl;have HL4:=Lib.hid (HL3.out.put staZA 29 (staL T) rfl _ rfl V hV);clear hV)
 have hr:=HL4.out.at_ w3.heap.size (staL T) (by simp)
 have q0:V.cell? ⟨w3.heap.size,0,none⟩=some (.int .u32 1):=by have:=hr 0 _ (sta_r T 0 (by decide));rwa[HE.out.1]at this
 have q9:V.cell? ⟨w3.heap.size,9,none⟩=some (.bool true):=by have:=hr 9 (.bool T.c) rfl;rwa[HE.out.2.1]at this
 have HQ8:=Lib.hid (show V.cell? ⟨w3.heap.size,8,none⟩=some (.int .u32 0)by have:=hr 8 (.int .u32 T.ip) rfl;rwa[HE.out.2.2]at this)
 have HLT:=Lib.hid (show w3.heap.size<V.heap.size from HL4.out.lt w3.heap.size (staL T) (by simp))
 have HB:=Lib.hid HL4.out.low
 clear hr HL HL2 HL3 HL4
 go_wp2_with fail
 ((with_reducible refine(HI.out 1 _).mono ?_);rintro e w5 ⟨rfl,b5⟩)
 rw[show isAluB 1=true from rfl]
 go_wp2_with fail
 ((with_reducible refine(HI.out 23 _).mono ?_);rintro e w6 ⟨rfl,b6⟩)
 rw[show isAluB 23=false from rfl]
 have q8:w6.cell? ⟨w3.heap.size,8,none⟩=some (.int .u32 0):=(b6.cell (p:=⟨w3.heap.size,8,none⟩) (Nat.lt_of_lt_of_le HLT.out b5.size)).trans ((b5.cell (p:=⟨w3.heap.size,8,none⟩) HLT.out).trans HQ8.out)
 have HB6:=Lib.hid (below_step (below_step HB.out b5) b6)
 clear b5 b6 q0 q9
 go_wp2_with fail
 go_ret
 exact⟨rfl,HB6.out⟩
def AV15(b:Nat)(g:Int→Int)(pg:Int→Bool)(rb:Nat)(R:Nat→Prop)(c d:Sg):Nat→Value→World→Prop
 |0,x,_=>x=.pointer (some ⟨b,0,none⟩)
 |1,x,u=>∃p Fm,x=.pointer (some ⟨p,0,none⟩)∧PMem u p Fm g pg
 |2,x,u=>Slc .u8 u x 288 (fun i=>g (place 36848 i))
 |3,x,_=>x=.string (strOf 288 fun i=>g (place 36848 i))
 |4,x,_=>x=.pointer (some ⟨rb,0,none⟩)
 |5,x,_=>x=.pointer (some ⟨rb,0,none⟩)
 |6,x,_=>x=.pointer (some ⟨rb,0,none⟩)
 |7,x,u=>∃p B,x=.pointer (some ⟨p,0,none⟩)∧RAt u rb p B R g c d
 |8,x,u=>Slc .u8 u x 288 (fun i=>g (place 36848 i))
 |9,x,_=>x=.string (strOf 288 fun i=>g (place 36848 i))
 |10,x,_=>x=.bool true
 |11,x,_=>x=.bool true
 |12,x,_=>x=.pointer (some ⟨b,0,none⟩)
 |13,x,u=>∃p Fm,x=.pointer (some ⟨p,0,none⟩)∧PMem u p Fm g pg
 |14,x,u=>Slc .u8 u x 100 (fun i=>g (place 20464 i))
 |15,x,_=>x=.string (strOf 100 fun i=>g (place 20464 i))
 |16,x,_=>x=.pointer (some ⟨rb,0,none⟩)
 |17,x,_=>x=.pointer (some ⟨rb,0,none⟩)
 |18,x,_=>x=.pointer (some ⟨rb,0,none⟩)
 |19,x,u=>∃p B,x=.pointer (some ⟨p,0,none⟩)∧RAt u rb p B R g c d
 |20,x,u=>Slc .u8 u x 100 (fun i=>g (place 20464 i))
 |21,x,_=>x=.string (strOf 100 fun i=>g (place 20464 i))
 |22,x,_=>x=.bool true
 |23,x,_=>x=.bool true
 |24,x,_=>x=.bool true
 |_,_,_=>True
theorem run_conv15{P:Program}{o:Oper}{b:Act}{u:World}{t t':TypeId}{x:Operand}{v:Value}(ho:o.op=.convert t t' x)(h:(convert t t' (b.eval x)).run P u=.ok v u):(execOp b.eval o).run P u=.ok (.value v) u:=by
 unfold execOp
 rw[ho]
 simp only[Sem.run_bind,h,Result.andThen_ok,Sem.run_pure]
theorem av15_stays{b:Nat}{g:Int→Int}{pg:Int→Bool}{rb:Nat}{R:Nat→Prop}{c d:Sg}(i:Nat)(v:Value)(u u':World)(hv:AV15 b g pg rb R c d i v u)(hb:Below u.heap.size u u'):AV15 b g pg rb R c d i v u':=by
 unfold AV15 at hv ⊢
 split at hv
 all_goals first
  |exact hv
  |exact hv.below hb
  |(obtain⟨p,Fm,e,hp⟩:=hv;exact⟨p,Fm,e,hp.but (G:=fun _=>False) (But.of_below hb) (fun _ _ h=>h)⟩)
theorem alike15_low{w0 w:World}{b rb:Nat}{F R:Nat→Prop}{g:Int→Int}{pg:Int→Bool}{c d:Sg}(t:TwoB w0 w b F g pg rb R g c d):
  Calls Tryz.prog 18 #[.pointer (some ⟨b,0,none⟩),.pointer (some ⟨rb,0,none⟩)] w fun e w'=>e=.returned (.bool true)∧TwoB w0 w' b F g pg rb R g c d∧Below w.heap.size w w':=by
 have HT:=Lib.hid t
 clear t
 go_enter Tryz.func18,Tryz.ntmps18
 go_wp2_with fail
 refine wp_region_valsG (by kernel_rfl) (fun _=>false) (by kernel_rfl) (fun u=>TwoB w0 u b F g pg rb R g c d∧Below w.heap.size w u) (fun u u'=>Below u.heap.size u u') (AV15 b g pg rb R c d) av15_stays (fun _=>Below.refl _ _) ⟨HT.out.next ((Below.refl _ _).drew),(Below.refl _ _).drew⟩ ?_ ?_
 ·intro n op cc u ho hinv hsz hbase hdep
  have b0:cc.tmps.getD 0 undef=.pointer (some ⟨b,0,none⟩):=hbase 0 (by kernel_rfl)
  have b1:cc.tmps.getD 1 undef=.pointer (some ⟨rb,0,none⟩):=hbase 1 (by kernel_rfl)
  have hn:n<25:=(Array.getElem?_eq_some_iff.1 ho).1
  clear hbase hsz
  rcases(show n=0∨n=1∨n=2∨n=3∨n=4∨n=5∨n=6∨n=7∨n=8∨n=9∨n=10∨n=11∨n=12∨n=13∨n=14∨n=15∨n=16∨n=17∨n=18∨n=19∨n=20∨n=21∨n=22∨n=23∨n=24 by omega)with rfl|rfl|rfl|rfl|rfl|rfl|rfl|rfl|rfl|rfl|rfl|rfl|rfl|rfl|rfl|rfl|rfl|rfl|rfl|rfl|rfl|rfl|rfl|rfl|rfl
  ·have ho0:=ho
   cases ho
   refine wpOp_free ho0 rfl ?_
   exact wp_val (by simp[execOp,Act.eval,b0,go_sem]<;>rfl) ⟨_,rfl,hinv,Below.refl _ _,rfl⟩
  ·have ho0:=ho
   cases ho
   have e0:cc.tmps.getD 5 undef=.pointer (some ⟨b,0,none⟩):=hdep 0 (by kernel_rfl)
   refine wpOp_free ho0 rfl ?_
   refine wp_call (by simp[execOp,Act.eval,e0,go_sem]<;>rfl) ((bmemory_any b F g pg c d _ hinv.1.own.bus).mono ?_)
   rintro e u' ⟨p,Fm,rfl,_,hp,hb⟩
   exact⟨_,rfl,_,rfl,⟨hinv.1.next hb,below_step hinv.2 hb⟩,hb,p,Fm,rfl,hp⟩
  ·have ho0:=ho
   cases ho
   obtain⟨p,Fm,e1,hp⟩:=hdep 1 (by kernel_rfl)
   have e1:cc.tmps.getD 6 undef=.pointer (some ⟨p,0,none⟩):=e1
   refine wpOp_free ho0 rfl ?_
   refine wp_call (by simp[execOp,Act.eval,e1,go_sem]<;>rfl) ((mread_any p Fm g pg 36848 288 (by decide) (by decide) _ hp).mono ?_)
   rintro e u' ⟨v,rfl,hs,hb⟩
   exact⟨_,rfl,_,rfl,⟨hinv.1.next hb,below_step hinv.2 hb⟩,hb,hs⟩
  ·have ho0:=ho
   cases ho
   have e2:Slc .u8 u (cc.tmps.getD 7 undef) 288 (fun i=>g (place 36848 i)):=hdep 2 (by kernel_rfl)
   have hcv:=e2.str (fun i _=>hinv.1.ref.byte _)
   refine wpOp_free ho0 rfl ?_
   exact wp_val (v:=.string (strOf 288 fun i=>g (place 36848 i))) (run_conv15 rfl hcv) ⟨_,rfl,hinv,Below.refl _ _,rfl⟩
  ·have ho0:=ho
   cases ho
   refine wpOp_free ho0 rfl ?_
   exact wp_val (by simp[execOp,Act.eval,b1,go_sem]<;>rfl) ⟨_,rfl,hinv,Below.refl _ _,rfl⟩
  ·have ho0:=ho
   cases ho
   have e4:cc.tmps.getD 9 undef=.pointer (some ⟨rb,0,none⟩):=hdep 4 (by kernel_rfl)
   refine wpOp_free ho0 rfl ?_
   exact wp_val (by simp[execOp,Act.eval,e4,go_sem]<;>rfl) ⟨_,rfl,hinv,Below.refl _ _,rfl⟩
  ·have ho0:=ho
   cases ho
   have e5:cc.tmps.getD 10 undef=.pointer (some ⟨rb,0,none⟩):=hdep 5 (by kernel_rfl)
   refine wpOp_free ho0 rfl ?_
   exact wp_val (by simp[execOp,Act.eval,e5,go_sem]<;>rfl) ⟨_,rfl,hinv,Below.refl _ _,rfl⟩
  ·have ho0:=ho
   cases ho
   have e6:cc.tmps.getD 11 undef=.pointer (some ⟨rb,0,none⟩):=hdep 6 (by kernel_rfl)
   obtain⟨p,B,hR⟩:=hinv.1.ref
   have k0:u.cell? ⟨rb,0,none⟩=some (.pointer (some ⟨p,0,none⟩)):=(cell_block hR.bus 0).1
   refine wpOp_free ho0 rfl ?_
   exact wp_val (by simp[execOp,Act.eval,e6,k0,go_sem]<;>rfl) ⟨_,rfl,hinv,Below.refl _ _,p,B,rfl,hR⟩
  ·have ho0:=ho
   cases ho
   obtain⟨p,B,e7,hR⟩:=hdep 7 (by kernel_rfl)
   have e7:cc.tmps.getD 12 undef=.pointer (some ⟨p,0,none⟩):=e7
   refine wpOp_free ho0 rfl ?_
   refine wp_call (by simp[execOp,Act.eval,e7,go_sem]<;>rfl) ((rmread_any p B 4294967296 g 36848 288 _ hR.ptr hR.map).mono ?_)
   rintro e u' ⟨blk,rfl,_,_,hs,hb⟩
   exact⟨_,rfl,_,rfl,⟨hinv.1.next hb,below_step hinv.2 hb⟩,hb,.inr ⟨_,_,rfl,Nat.le_refl _,fun i hi=>by rw[show(⟨blk,0,none⟩:Addr).add i=⟨blk,i,none⟩by unfold Addr.add;split<;>simp_all];exact hs i hi⟩⟩
  ·have ho0:=ho
   cases ho
   have e8:Slc .u8 u (cc.tmps.getD 13 undef) 288 (fun i=>g (place 36848 i)):=hdep 8 (by kernel_rfl)
   have hcv:=e8.str (fun i _=>hinv.1.ref.byte _)
   refine wpOp_free ho0 rfl ?_
   exact wp_val (v:=.string (strOf 288 fun i=>g (place 36848 i))) (run_conv15 rfl hcv) ⟨_,rfl,hinv,Below.refl _ _,rfl⟩
  ·have ho0:=ho
   cases ho
   have e3:cc.tmps.getD 8 undef=.string (strOf 288 fun i=>g (place 36848 i)):=hdep 3 (by kernel_rfl)
   have e9:cc.tmps.getD 14 undef=.string (strOf 288 fun i=>g (place 36848 i)):=hdep 9 (by kernel_rfl)
   refine wpOp_free ho0 rfl ?_
   exact wp_val (by simp[execOp,Act.eval,e3,e9,go_sem]<;>rfl) ⟨_,rfl,hinv,Below.refl _ _,rfl⟩
  ·have ho0:=ho
   cases ho
   have e10:cc.tmps.getD 15 undef=.bool true:=hdep 10 (by kernel_rfl)
   refine wpOp_free ho0 rfl ?_
   exact wp_val (by simp[execOp,Act.eval,e10,go_sem]<;>rfl) ⟨_,rfl,hinv,Below.refl _ _,rfl⟩
  ·have ho0:=ho
   cases ho
   have hG:=hdep 11 (by kernel_rfl)
   refine wpOp_met ho0 11 true rfl hG ?_
   exact wp_val (by simp[execOp,Act.eval,b0,go_sem]<;>rfl) ⟨_,rfl,hinv,Below.refl _ _,rfl⟩
  ·have ho0:=ho
   cases ho
   have e12:cc.tmps.getD 17 undef=.pointer (some ⟨b,0,none⟩):=hdep 12 (by kernel_rfl)
   have hG:=hdep 11 (by kernel_rfl)
   refine wpOp_met ho0 11 true rfl hG ?_
   refine wp_call (by simp[execOp,Act.eval,e12,go_sem]<;>rfl) ((bmemory_any b F g pg c d _ hinv.1.own.bus).mono ?_)
   rintro e u' ⟨p,Fm,rfl,_,hp,hb⟩
   exact⟨_,rfl,_,rfl,⟨hinv.1.next hb,below_step hinv.2 hb⟩,hb,p,Fm,rfl,hp⟩
  ·have ho0:=ho
   cases ho
   obtain⟨p,Fm,e13,hp⟩:=hdep 13 (by kernel_rfl)
   have e13:cc.tmps.getD 18 undef=.pointer (some ⟨p,0,none⟩):=e13
   have hG:=hdep 11 (by kernel_rfl)
   refine wpOp_met ho0 11 true rfl hG ?_
   refine wp_call (by simp[execOp,Act.eval,e13,go_sem]<;>rfl) ((mread_any p Fm g pg 20464 100 (by decide) (by decide) _ hp).mono ?_)
   rintro e u' ⟨v,rfl,hs,hb⟩
   exact⟨_,rfl,_,rfl,⟨hinv.1.next hb,below_step hinv.2 hb⟩,hb,hs⟩
  ·have ho0:=ho
   cases ho
   have e14:Slc .u8 u (cc.tmps.getD 19 undef) 100 (fun i=>g (place 20464 i)):=hdep 14 (by kernel_rfl)
   have hcv:=e14.str (fun i _=>hinv.1.ref.byte _)
   have hG:=hdep 11 (by kernel_rfl)
   refine wpOp_met ho0 11 true rfl hG ?_
   exact wp_val (v:=.string (strOf 100 fun i=>g (place 20464 i))) (run_conv15 rfl hcv) ⟨_,rfl,hinv,Below.refl _ _,rfl⟩
  ·have ho0:=ho
   cases ho
   have hG:=hdep 11 (by kernel_rfl)
   refine wpOp_met ho0 11 true rfl hG ?_
   exact wp_val (by simp[execOp,Act.eval,b1,go_sem]<;>rfl) ⟨_,rfl,hinv,Below.refl _ _,rfl⟩
  ·have ho0:=ho
   cases ho
   have e16:cc.tmps.getD 21 undef=.pointer (some ⟨rb,0,none⟩):=hdep 16 (by kernel_rfl)
   have hG:=hdep 11 (by kernel_rfl)
   refine wpOp_met ho0 11 true rfl hG ?_
   exact wp_val (by simp[execOp,Act.eval,e16,go_sem]<;>rfl) ⟨_,rfl,hinv,Below.refl _ _,rfl⟩
  ·have ho0:=ho
   cases ho
   have e17:cc.tmps.getD 22 undef=.pointer (some ⟨rb,0,none⟩):=hdep 17 (by kernel_rfl)
   have hG:=hdep 11 (by kernel_rfl)
   refine wpOp_met ho0 11 true rfl hG ?_
   exact wp_val (by simp[execOp,Act.eval,e17,go_sem]<;>rfl) ⟨_,rfl,hinv,Below.refl _ _,rfl⟩
  ·have ho0:=ho
   cases ho
   have e18:cc.tmps.getD 23 undef=.pointer (some ⟨rb,0,none⟩):=hdep 18 (by kernel_rfl)
   obtain⟨p,B,hR⟩:=hinv.1.ref
   have k0:u.cell? ⟨rb,0,none⟩=some (.pointer (some ⟨p,0,none⟩)):=(cell_block hR.bus 0).1
   have hG:=hdep 11 (by kernel_rfl)
   refine wpOp_met ho0 11 true rfl hG ?_
   exact wp_val (by simp[execOp,Act.eval,e18,k0,go_sem]<;>rfl) ⟨_,rfl,hinv,Below.refl _ _,p,B,rfl,hR⟩
  ·have ho0:=ho
   cases ho
   obtain⟨p,B,e19,hR⟩:=hdep 19 (by kernel_rfl)
   have e19:cc.tmps.getD 24 undef=.pointer (some ⟨p,0,none⟩):=e19
   have hG:=hdep 11 (by kernel_rfl)
   refine wpOp_met ho0 11 true rfl hG ?_
   refine wp_call (by simp[execOp,Act.eval,e19,go_sem]<;>rfl) ((rmread_any p B 4294967296 g 20464 100 _ hR.ptr hR.map).mono ?_)
   rintro e u' ⟨blk,rfl,_,_,hs,hb⟩
   exact⟨_,rfl,_,rfl,⟨hinv.1.next hb,below_step hinv.2 hb⟩,hb,.inr ⟨_,_,rfl,Nat.le_refl _,fun i hi=>by rw[show(⟨blk,0,none⟩:Addr).add i=⟨blk,i,none⟩by unfold Addr.add;split<;>simp_all];exact hs i hi⟩⟩
  ·have ho0:=ho
   cases ho
   have e20:Slc .u8 u (cc.tmps.getD 25 undef) 100 (fun i=>g (place 20464 i)):=hdep 20 (by kernel_rfl)
   have hcv:=e20.str (fun i _=>hinv.1.ref.byte _)
   have hG:=hdep 11 (by kernel_rfl)
   refine wpOp_met ho0 11 true rfl hG ?_
   exact wp_val (v:=.string (strOf 100 fun i=>g (place 20464 i))) (run_conv15 rfl hcv) ⟨_,rfl,hinv,Below.refl _ _,rfl⟩
  ·have ho0:=ho
   cases ho
   have e15:cc.tmps.getD 20 undef=.string (strOf 100 fun i=>g (place 20464 i)):=hdep 15 (by kernel_rfl)
   have e21:cc.tmps.getD 26 undef=.string (strOf 100 fun i=>g (place 20464 i)):=hdep 21 (by kernel_rfl)
   have hG:=hdep 11 (by kernel_rfl)
   refine wpOp_met ho0 11 true rfl hG ?_
   exact wp_val (by simp[execOp,Act.eval,e15,e21,go_sem]<;>rfl) ⟨_,rfl,hinv,Below.refl _ _,rfl⟩
  ·have ho0:=ho
   cases ho
   have e11:cc.tmps.getD 16 undef=.bool true:=hdep 11 (by kernel_rfl)
   have e22:cc.tmps.getD 27 undef=.bool true:=hdep 22 (by kernel_rfl)
   refine wpOp_free ho0 rfl ?_
   exact wp_val (by simp[execOp,Act.eval,e11,e22,go_sem]<;>rfl) ⟨_,rfl,hinv,Below.refl _ _,rfl⟩
  ·have ho0:=ho
   cases ho
   have e23:cc.tmps.getD 28 undef=.bool true:=hdep 23 (by kernel_rfl)
   refine wpOp_free ho0 rfl ?_
   exact wp_val (by simp[execOp,Act.eval,e23,go_sem]<;>rfl) ⟨_,rfl,hinv,Below.refl _ _,rfl⟩
 ·intro f u hinv hV
  have q24:f 24=.bool true:=hV 24 (by decide)
  generalize hc:laid _ f _ _=cc
  have b4:cc.tmps.getD 4 undef=.bool true:=by rw[←hc,←q24];kernel_rfl
  have bd:cc.defers=[]:=by rw[←hc];kernel_rfl
  have HI:=Lib.hid hinv
  clear hc hV q24 hinv
  go_wp2_with fail
  refine bodyPost_ret (v:=.bool true) ?_ bd ⟨rfl,HI.out⟩
  have hr:Tryz.f18.results=#[.tmp 4]:=by kernel_rfl
  unfold results
  rw[hr]
  rw[Array.getD_eq_getD_getElem?]at b4
  simpa using b4
theorem alike15_any{w0 w:World}{b rb:Nat}{F R:Nat→Prop}{g:Int→Int}{pg:Int→Bool}{c d:Sg}(t:TwoB w0 w b F g pg rb R g c d):
  Calls Tryz.prog 18 #[.pointer (some ⟨b,0,none⟩),.pointer (some ⟨rb,0,none⟩)] w fun e w'=>e=.returned (.bool true)∧TwoB w0 w' b F g pg rb R g c d:=
 (alike15_low t).mono fun _ _ ⟨h1,h2,_⟩=>⟨h1,h2⟩
theorem sta_eql(w:World)(s:Sta)(hs:WfS s):(binOp .eql 29 (staV s) (staV s)).run Tryz.prog w=.ok (.bool true) w:=by
 obtain⟨r,hr,hi⟩:=sta_eqR w s s hs hs
 have:r=true:=hi.2 rfl
 subst this
 exact hr
theorem wpList_eql_sta{ops:Array Oper}{rest:List Oper}{op:Oper}{a:Act}{w:World}{Q:Exit→Act→World→Prop}(hgd:op.guard=none)(x y:Operand)(ho:op.op=.binOp .eql 29 x y 29)(s:Sta)(hs:WfS s)(hx:a.eval x=staV s)(hy:a.eval y=staV s)
  (hK:wpList Tryz.prog ops Q rest (a.put op.dst (.bool true)) w):wpList Tryz.prog ops Q (op :: rest) a w:=
 wpList_plain hgd fun _ hh=>by
  have hg:(eqGuard .eql 29 x y (staV s) (staV s)).run Tryz.prog w=.ok () w:=run_eqGuard_agg w .eql 29 x y _ _ sta_guard1
  unfold Oper.wp execOp
  rw[ho]
  simp only[Sem.run_bind,hx,hy,hg,Result.andThen_ok,sta_eql w s hs,Sem.run_pure]
  exact hh _ _ hK
theorem same15_any(HDO:DoC 17)(HAL:RAluC 29)(s:Sta)(I:Ins)(k:Int)(hs:StaOk s)(hI:DecI I)(k0:0≤k)(k1:k<4294967296)(w:World):
  Calls Tryz.prog 13 #[.agg (staL s).toArray,.agg (insL I).toArray,.int .u32 k] w fun e w'=>e=.returned (.bool true)∧Below w.heap.size w w':=by
 go_enter Tryz.func13,Tryz.ntmps13
 go_upto_region 1 with fail
 obtain⟨W,hW⟩:∃W,W=(w.alloc (.cells (staL s).toArray 29)).alloc (.cells (insL I).toArray 34):=⟨_,rfl⟩
 rw[←hW]
 obtain⟨h1,h2,hbel⟩:=heap_two hW
 have HOS:=Lib.hid h1
 have HOI:=Lib.hid h2
 have HBW:=Lib.hid hbel
 clear hW h1 h2 hbel
 go_wp2_with fail
 ((with_reducible refine(boxes15_any (.slice none 0 0) 0 (fun _=>0) k k0 k1 (by decide) (fun _=>⟨by decide,by decide⟩) _ (slc_nil8 _)).mono ?_);rintro e w1 ⟨b,F,pg,rb,R,rfl,ht⟩)
 obtain⟨g,hg⟩:∃g,boxG (fun _=>0) 0 k=g:=⟨_,rfl⟩
 rw[hg]at ht
 have HL:=Lib.hid (((Lab.start ht).old _ _ _ HOI.out).old _ _ _ HOS.out)
 clear ht hg
 go_wp2_with (first
  |(refine wpList_load_mid rfl 29 (.tmp 3) rfl w.heap.size 0 rfl (staL s) _ (HL.out.at_ _ _ (by simp)) Tryz.underlying29 rfl info_sta ?_)
  |(refine wpList_load_mid rfl 34 (.tmp 4) rfl (w.heap.size+1) 0 rfl (insL I) _ (HL.out.at_ _ _ (by simp)) Tryz.underlying34 rfl info_ins ?_))
 ((with_reducible refine(lab_do HDO HL.out hs hI).mono ?_);rintro e w3 ⟨F3,pg3,rfl,hl3⟩)
 have HT:=Lib.hid (alu_ok hs g boxD I)
 obtain⟨T,hT⟩:∃T,AluT g boxD s I=T:=⟨_,rfl⟩
 obtain⟨E,hE⟩:∃E,aluE g boxD s I=E:=⟨_,rfl⟩
 obtain⟨g',hg'⟩:∃g',aluG g boxD s I=g':=⟨_,rfl⟩
 have HAQ:=Lib.hid (fun(w0 w:World) (F:Nat→Prop) (pg:Int→Bool) (l:List (Nat×List Value)) (t:Lab w0 w b F g' pg rb R g (boxC 0) boxD l)=>lab_ralu HAL t hs hI)
 rw[hT]at HT
 rw[hT,hE,hg']at HAQ
 rw[hg']at hl3
 rw[hT,hE]
 have HL3:=Lib.hid hl3
 have HTW:=Lib.hid (ok_wf HT.out)
 clear hl3 hT hE hg' HL
 have HTH:=Lib.hid (there_alloc_new w3 staZA 29 23 (by decide))
 go_upto_region 3 with(refine store_row rfl 29 (.tmp 9) (.tmp 23) rfl w3.heap.size rfl (staL T) rfl _ Tryz.underlying29 rfl info_sta (sta_one T) HTH.out ?_;intro V hV hl;clear hl;have HL4:=Lib.hid (HL3.out.put staZA 29 (staL T) rfl _ rfl V hV);clear hV)
 clear HL3 HTH
 go_wp2_with (first
  |(refine wpList_load_mid rfl 29 (.tmp 3) rfl w.heap.size 0 rfl (staL s) _ (HL4.out.at_ _ _ (by simp)) Tryz.underlying29 rfl info_sta ?_)
  |(refine wpList_load_mid rfl 34 (.tmp 4) rfl (w.heap.size+1) 0 rfl (insL I) _ (HL4.out.at_ _ _ (by simp)) Tryz.underlying34 rfl info_ins ?_))
 ((with_reducible refine(HAQ.out _ _ _ _ _ HL4.out).mono ?_);rintro e w5 ⟨rfl,hl5⟩)
 have HL5:=Lib.hid hl5
 clear hl5
 have HTH:=Lib.hid (there_alloc_new w5 staZA 29 23 (by decide))
 go_upto_region 4 with(refine store_row rfl 29 (.tmp 11) (.tmp 30) rfl w5.heap.size rfl (staL T) rfl _ Tryz.underlying29 rfl info_sta (sta_one T) HTH.out ?_;intro V2 hV hl;clear hl;have HL6:=Lib.hid (HL5.out.put staZA 29 (staL T) rfl _ rfl V2 hV);clear hV)
 clear HL5 HTH HL4
 go_wp2_with (first
  |(refine wpList_load_mid rfl 29 (.tmp 9) rfl w3.heap.size 0 rfl (staL T) _ (HL6.out.at_ _ _ (by simp)) Tryz.underlying29 rfl info_sta ?_)
  |(refine wpList_load_mid rfl 29 (.tmp 11) rfl w5.heap.size 0 rfl (staL T) _ (HL6.out.at_ _ _ (by simp)) Tryz.underlying29 rfl info_sta ?_)
  |(refine wpList_eql_sta rfl (.tmp 32) (.tmp 33) rfl T HTW.out rfl rfl ?_))
 ((with_reducible refine(alike15_any HL6.out.two).mono ?_);rintro e w7 ⟨rfl,t7⟩)
 have HB7:=Lib.hid (below_step HBW.out t7.low)
 clear t7
 go_wp2_with fail
 go_ret
 exact⟨rfl,HB7.out⟩
section
attribute [local go_sem] isSome_setCell
theorem seatword_any(k:Int)(k0:0≤k)(k1:k<4294967296)(w:World):Calls Tryz.prog 31 #[.int .u32 k] w fun e w'=>∃d:Int,e=.returned (.int .u32 d)∧(0≤d∧d<4294967296)∧Below w.heap.size w w':=by
 by_cases h:k%3=0
 ·have hz:(k%3==0)=true:=by rw[beq_iff_eq];omega
  clear h
  go_enter Tryz.func31,Tryz.ntmps31
  go_wp2_with fail
  go_ret
  exact⟨k/3,rfl,by omega,below_last (Below.refl _ _) _⟩
 ·have hz:(k%3==0)=false:=by rw[beq_eq_false_iff_ne];omega
  clear h
  obtain⟨j,hj⟩:∃j:Nat,k/3%16=j:=⟨(k/3%16).toNat,by omega⟩
  have hj16:j<16:=by omega
  go_enter Tryz.func31,Tryz.ntmps31
  go_wp2_with fail
  go_ret
  clear hj
  refine⟨[0,1,2,4,8,31,127,128,255,2147483647,2147483648,4294967295,4294967294,64,100,128].getD j 0,?_,?_,below_last (Below.refl _ _) _⟩
  all_goals
   obtain rfl|rfl|rfl|rfl|rfl|rfl|rfl|rfl|rfl|rfl|rfl|rfl|rfl|rfl|rfl|rfl:j=0∨j=1∨j=2∨j=3∨j=4∨j=5∨j=6∨j=7∨j=8∨j=9∨j=10∨j=11∨j=12∨j=13∨j=14∨j=15:=by omega
   all_goals first|rfl|simp
end
section
attribute [local go_sem] isSome_setCell
theorem seatdouble_any(k:Nat)(k1:k<18446744073709551616)(w:World):Calls Tryz.prog 32 #[.int .u64 (k:Int)] w fun e w'=>
  ∃d:Nat,d<18446744073709551616∧e=.returned (.int .u64 (d:Int))∧Below w.heap.size w w':=by
 by_cases h:k%4=0
 ·have hz:((k:Int)%4==0)=true:=by rw[beq_iff_eq];omega
  clear h
  go_enter Tryz.func32,Tryz.ntmps32
  go_wp2
  go_ret
  exact⟨k,k1,rfl,below_last (Below.refl _ _) _⟩
 ·have hz:((k:Int)%4==0)=false:=by rw[beq_eq_false_iff_ne];omega
  clear h
  obtain⟨j,hj⟩:∃j:Nat,(k:Int)/4%18=j:=⟨k/4%18,by omega⟩
  have hj18:j<18:=by omega
  go_enter Tryz.func32,Tryz.ntmps32
  go_wp2
  go_ret
  clear hj
  refine⟨[0,9223372036854775808,4607182418800017408,13830554455654793216,9218868437227405312,18442240474082181120,9221120237041090561,9218868437227405313,18444492273895866368,1,9223372036854775809,9218868437227405311,4746794007248502784,13970166044105375744,4746794007244308480,4602678819172646912,4613937818241073152,4503599627370496][j],?_,?_,below_last (Below.refl _ _) _⟩
  all_goals
   obtain rfl|rfl|rfl|rfl|rfl|rfl|rfl|rfl|rfl|rfl|rfl|rfl|rfl|rfl|rfl|rfl|rfl|rfl:j=0∨j=1∨j=2∨j=3∨j=4∨j=5∨j=6∨j=7∨j=8∨j=9∨j=10∨j=11∨j=12∨j=13∨j=14∨j=15∨j=16∨j=17:=by omega
   all_goals first|rfl|simp
end
end Go.Proofs.YtmdncgfheeijaaaGreat
