import Derived.Test.YtmdncgfheeijaaaGreatKUG25
namespace Go.Proofs.YtmdncgfheeijaaaGreat
open Go.ChangeShapes Go.WideShapes Go.ChangeAt Go.RowKit
set_option maxRecDepth 100000
def I15x:Ins:=⟨1,0,4,regO 1 0,regO 1 1,0,false,2⟩
theorem one_15x:oneF 2 (lst [1,200])=(I15x,0):=by kernel_rfl
theorem lst_15x:∀i,0≤lst [1,200] i∧lst [1,200] i<256:=lst_ok (by simp)
theorem dec_15x:DecI I15x:=⟨⟨2,lst [1,200],lst_15x,one_15x⟩,rfl⟩
def I15y:Ins:=⟨3,0,4,regO 1 2,regO 1 3,0,false,2⟩
theorem one_15y:oneF 2 (lst [17,218])=(I15y,0):=by kernel_rfl
theorem lst_15y:∀i,0≤lst [17,218] i∧lst [17,218] i<256:=lst_ok (by simp)
theorem dec_15y:DecI I15y:=⟨⟨2,lst [17,218],lst_15y,one_15y⟩,rfl⟩
def I15z:Ins:=⟨6,0,4,regO 1 0,regO 1 1,0,false,2⟩
theorem one_15z:oneF 2 (lst [41,200])=(I15z,0):=by kernel_rfl
theorem lst_15z:∀i,0≤lst [41,200] i∧lst [41,200] i<256:=lst_ok (by simp)
theorem dec_15z:DecI I15z:=⟨⟨2,lst [41,200],lst_15z,one_15z⟩,rfl⟩
def I15u:Ins:=⟨4,0,4,regO 1 2,regO 1 3,0,false,2⟩
theorem one_15u:oneF 2 (lst [25,218])=(I15u,0):=by kernel_rfl
theorem lst_15u:∀i,0≤lst [25,218] i∧lst [25,218] i<256:=lst_ok (by simp)
theorem dec_15u:DecI I15u:=⟨⟨2,lst [25,218],lst_15u,one_15u⟩,rfl⟩
theorem alu_15x(g:Int→Int)(dd:Sg)(s:Sta):aluE g dd s I15x=0∧(AluT g dd s I15x).r 0=addV (s.r 0%4294967296) (s.r 1%4294967296) 4 false%4294967296∧(AluT g dd s I15x).r 2=s.r 2∧(AluT g dd s I15x).r 3=s.r 3∧(AluT g dd s I15x).c=addC (s.r 0%4294967296) (s.r 1%4294967296) 4 false:=⟨rfl,rfl,rfl,rfl,rfl⟩
theorem alu_15y(g:Int→Int)(dd:Sg)(s:Sta):aluE g dd s I15y=0∧(AluT g dd s I15y).r 2=addV (s.r 2%4294967296) (s.r 3%4294967296) 4 s.c%4294967296∧(AluT g dd s I15y).r 0=s.r 0∧(AluT g dd s I15y).c=addC (s.r 2%4294967296) (s.r 3%4294967296) 4 s.c:=⟨rfl,rfl,rfl,rfl⟩
theorem alu_15z(g:Int→Int)(dd:Sg)(s:Sta):aluE g dd s I15z=0∧(AluT g dd s I15z).r 0=subV (s.r 0%4294967296) (s.r 1%4294967296) 4 false%4294967296∧(AluT g dd s I15z).r 2=s.r 2∧(AluT g dd s I15z).r 3=s.r 3∧(AluT g dd s I15z).c=subC (s.r 0%4294967296) (s.r 1%4294967296) 4 false:=⟨rfl,rfl,rfl,rfl,rfl⟩
theorem alu_15u(g:Int→Int)(dd:Sg)(s:Sta):aluE g dd s I15u=0∧(AluT g dd s I15u).r 2=subV (s.r 2%4294967296) (s.r 3%4294967296) 4 s.c%4294967296∧(AluT g dd s I15u).r 0=s.r 0∧(AluT g dd s I15u).c=subC (s.r 2%4294967296) (s.r 3%4294967296) 4 s.c:=⟨rfl,rfl,rfl,rfl⟩
def staAB(a b:Int):Sta:=⟨fun i=>if i=0 then a%4294967296 else if i=1 then b%4294967296 else if i=2 then a/4294967296 else if i=3 then b/4294967296 else 0,0,false,false,false,false,false,false,fun _=>0⟩
theorem staAB_ok(a b:Int)(a0:0≤a)(a1:a<18446744073709551616)(b0:0≤b)(b1:b<18446744073709551616):StaOk (staAB a b):=⟨fun i _=>by
 show 0≤(if i=0 then a%4294967296 else if i=1 then b%4294967296 else if i=2 then a/4294967296 else if i=3 then b/4294967296 else(0:Int))∧(if i=0 then a%4294967296 else if i=1 then b%4294967296 else if i=2 then a/4294967296 else if i=3 then b/4294967296 else(0:Int))<4294967296
 repeat' split
 all_goals omega,fun _ _=>⟨Int.le_refl _,by show(0:Int)<_;decide⟩,⟨Int.le_refl _,by show(0:Int)<_;decide⟩⟩
theorem or_words(x y:Int)(x0:0≤x)(x1:x<4294967296)(y0:0≤y)(y1:y<4294967296):bits .or .u64 (x*4294967296) y=x*4294967296+y:=by
 obtain⟨m,rfl⟩:=Int.eq_ofNat_of_zero_le x0
 obtain⟨n,rfl⟩:=Int.eq_ofNat_of_zero_le y0
 rw[show(m:Int)*4294967296=((m*4294967296:Nat):Int)by omega,u64_or_nat _ _ (by omega) (by omega),or_shift m n 32 (by omega)]
 omega
theorem cut_four(v:Int):cut v 4=v%4294967296:=rfl
theorem sum_two(a b X0 X2:Int)(C D:Bool)(a0:0≤a)(a1:a<18446744073709551616)(b0:0≤b)(b1:b<18446744073709551616)(h0:X0=addV (a%4294967296%4294967296) (b%4294967296%4294967296) 4 false%4294967296)(hC:C=addC (a%4294967296%4294967296) (b%4294967296%4294967296) 4 false)(h2:X2=addV (a/4294967296%4294967296) (b/4294967296%4294967296) 4 C%4294967296)(hD:D=addC (a/4294967296%4294967296) (b/4294967296%4294967296) 4 C):
  X2*4294967296+X0=(a+b)%18446744073709551616∧D=decide ((a+b)%18446744073709551616<a)∧(0≤X0∧X0<4294967296)∧(0≤X2∧X2<4294967296):=by
 unfold addV at h0 h2
 unfold addC at hC hD
 simp only[cut_four]at h0 h2 hC hD
 rw[show(2:Int)^wid 4=4294967296 from rfl]at hC hD
 have e0:((false:Bool).toNat:Int)=0:=rfl
 rw[e0]at h0 hC
 cases C with
 |false=>
  have e1:((false:Bool).toNat:Int)=0:=rfl
  rw[e1]at h2 hD
  have hc:=of_decide_eq_false hC.symm
  refine⟨by omega,?_,by omega,by omega⟩
  rw[hD]
  exact decide_eq_decide.2 (by omega)
 |true=>
  have e1:((true:Bool).toNat:Int)=1:=rfl
  rw[e1]at h2 hD
  have hc:=of_decide_eq_true hC.symm
  refine⟨by omega,?_,by omega,by omega⟩
  rw[hD]
  exact decide_eq_decide.2 (by omega)
theorem dif_two(a b X0 X2:Int)(C D:Bool)(a0:0≤a)(a1:a<18446744073709551616)(b0:0≤b)(b1:b<18446744073709551616)(h0:X0=subV (a%4294967296%4294967296) (b%4294967296%4294967296) 4 false%4294967296)(hC:C=subC (a%4294967296%4294967296) (b%4294967296%4294967296) 4 false)(h2:X2=subV (a/4294967296%4294967296) (b/4294967296%4294967296) 4 C%4294967296)(hD:D=subC (a/4294967296%4294967296) (b/4294967296%4294967296) 4 C):
  X2*4294967296+X0=(a-b)%18446744073709551616∧D=decide (a<b)∧(0≤X0∧X0<4294967296)∧(0≤X2∧X2<4294967296):=by
 unfold subV at h0 h2
 unfold subC at hC hD
 simp only[cut_four]at h0 h2 hC hD
 have e0:((false:Bool).toNat:Int)=0:=rfl
 rw[e0]at h0 hC
 cases C with
 |false=>
  have e1:((false:Bool).toNat:Int)=0:=rfl
  rw[e1]at h2 hD
  have hc:=of_decide_eq_false hC.symm
  refine⟨by omega,?_,by omega,by omega⟩
  rw[hD]
  exact decide_eq_decide.2 (by omega)
 |true=>
  have e1:((true:Bool).toNat:Int)=1:=rfl
  rw[e1]at h2 hD
  have hc:=of_decide_eq_true hC.symm
  refine⟨by omega,?_,by omega,by omega⟩
  rw[hD]
  exact decide_eq_decide.2 (by omega)
set_option maxHeartbeats 8000000
theorem alucarries_walk(HDO:DoC 17)(HIS:IsC 15)(HON:OneC 10)(a b':Int)(a0:0≤a)(a1:a<18446744073709551616)(b0:0≤b')(b1:b'<18446744073709551616)(w:World):
  Calls Tryz.prog 7 #[.int .u64 a,.int .u64 b'] w fun e w'=>e=.returned (.bool true)∧Below w.heap.size w w':=by
 have HK:=Lib.hid (known15_any HDO HIS HON)
 have HONE:=Lib.hid (fun v L bs hb hL u hu=>HON v L bs hb hL u hu)
 have HSOK:=Lib.hid (staAB_ok a b' a0 a1 b0 b1)
 have HAB:=Lib.hid (And.intro (And.intro a0 a1) (And.intro b0 b1))
 go_enter Tryz.func7,Tryz.ntmps7
 go_wp2_with fail
 ((with_reducible refine(HK.out _).mono ?_);rintro e w0 ⟨rfl,c0⟩)
 have HB0:=Lib.hid c0
 clear c0
 go_wp2_with fail
 ((with_reducible refine(boxes15_any (.slice none 0 0) 0 (fun _=>0) 1 (by decide) (by decide) (by decide) (fun _=>⟨by decide,by decide⟩) _ (slc_nil8 _)).mono ?_);rintro e w1 ⟨b,F,pg,rb,R,rfl,ht⟩)
 obtain⟨g,hg⟩:∃g,boxG (fun _=>0) 0 1=g:=⟨_,rfl⟩
 rw[hg]at ht
 have HL:=Lib.hid (Lab.start ht)
 clear ht hg
 go_upto_region 6 with fail
 obtain⟨W,hW⟩:∃W,W=w1.alloc (.cells (staL (staAB a b')).toArray 29):=⟨_,rfl⟩
 have hW':_=W:=hW.symm
 rw[show(staL (staAB a b')).toArray=#[.int .u32 (a%4294967296),.int .u32 (b'%4294967296),.int .u32 (a/4294967296),.int .u32 (b'/4294967296),.int .u32 0,.int .u32 0,.int .u32 0,.int .u32 0,.int .u32 0,.bool false,.bool false,.bool false,.bool false,.bool false,.bool false,.int .u64 0,.int .u64 0,.int .u64 0,.int .u64 0,.int .u64 0,.int .u64 0,.int .u64 0,.int .u64 0]from rfl]at hW'
 rw[hW']
 have HL:=Lib.hid (HL.out.lit (staL (staAB a b')) 29 w1.heap.size rfl W hW)
 clear hW hW'
 go_wp2_with fail
 ((with_reducible refine(HONE.out _ 2 (lst [1,200]) lst_15x (by decide) _ (slc_new W _ _ 2 2 _ (Nat.le_refl _) (by intro i hi;rcases(show i=0∨i=1 by omega)with rfl|rfl<;>simp[lst]))).mono ?_);rintro e w2 ⟨rfl,c2⟩)
 rw[one_15x]
 have HL:=Lib.hid (HL.out.next (below_step (below_last (Below.refl _ _) _) c2))
 clear c2
 unfold insR
 rw[show insV I15x=.agg (insL I15x).toArray from rfl]
 have HTH:=Lib.hid (there_alloc_new w2 zeroA 34 18 (by decide))
 go_upto_region 7 with(refine store_row rfl 34 (.tmp 8) (.tmp 45) rfl w2.heap.size rfl (insL I15x) rfl _ Tryz.underlying34 rfl info_ins (ins_one _) HTH.out ?_;intro V1 hV hl;clear hl;have HLn:=Lib.hid (HL.out.put zeroA 34 (insL I15x) rfl _ rfl V1 hV);clear hV)
 have HL:=Lib.hid HLn.out
 clear HLn HTH
 go_wp2_with fail
 ((with_reducible refine(HONE.out _ 2 (lst [17,218]) lst_15y (by decide) _ (slc_new V1 _ _ 2 2 _ (Nat.le_refl _) (by intro i hi;rcases(show i=0∨i=1 by omega)with rfl|rfl<;>simp[lst]))).mono ?_);rintro e w3 ⟨rfl,c2⟩)
 rw[one_15y]
 have HL:=Lib.hid (HL.out.next (below_step (below_last (Below.refl _ _) _) c2))
 clear c2
 unfold insR
 rw[show insV I15y=.agg (insL I15y).toArray from rfl]
 have HTH:=Lib.hid (there_alloc_new w3 zeroA 34 18 (by decide))
 go_upto_region 8 with(refine store_row rfl 34 (.tmp 10) (.tmp 50) rfl w3.heap.size rfl (insL I15y) rfl _ Tryz.underlying34 rfl info_ins (ins_one _) HTH.out ?_;intro V2 hV hl;clear hl;have HLn:=Lib.hid (HL.out.put zeroA 34 (insL I15y) rfl _ rfl V2 hV);clear hV)
 have HL:=Lib.hid HLn.out
 clear HLn HTH
 go_wp2_with fail
 ((with_reducible refine(HONE.out _ 2 (lst [41,200]) lst_15z (by decide) _ (slc_new V2 _ _ 2 2 _ (Nat.le_refl _) (by intro i hi;rcases(show i=0∨i=1 by omega)with rfl|rfl<;>simp[lst]))).mono ?_);rintro e w4 ⟨rfl,c2⟩)
 rw[one_15z]
 have HL:=Lib.hid (HL.out.next (below_step (below_last (Below.refl _ _) _) c2))
 clear c2
 unfold insR
 rw[show insV I15z=.agg (insL I15z).toArray from rfl]
 have HTH:=Lib.hid (there_alloc_new w4 zeroA 34 18 (by decide))
 go_upto_region 9 with(refine store_row rfl 34 (.tmp 12) (.tmp 55) rfl w4.heap.size rfl (insL I15z) rfl _ Tryz.underlying34 rfl info_ins (ins_one _) HTH.out ?_;intro V3 hV hl;clear hl;have HLn:=Lib.hid (HL.out.put zeroA 34 (insL I15z) rfl _ rfl V3 hV);clear hV)
 have HL:=Lib.hid HLn.out
 clear HLn HTH
 go_wp2_with fail
 ((with_reducible refine(HONE.out _ 2 (lst [25,218]) lst_15u (by decide) _ (slc_new V3 _ _ 2 2 _ (Nat.le_refl _) (by intro i hi;rcases(show i=0∨i=1 by omega)with rfl|rfl<;>simp[lst]))).mono ?_);rintro e w5 ⟨rfl,c2⟩)
 rw[one_15u]
 have HL:=Lib.hid (HL.out.next (below_step (below_last (Below.refl _ _) _) c2))
 clear c2
 unfold insR
 rw[show insV I15u=.agg (insL I15u).toArray from rfl]
 have HTH:=Lib.hid (there_alloc_new w5 zeroA 34 18 (by decide))
 go_upto_region 10 with(refine store_row rfl 34 (.tmp 14) (.tmp 60) rfl w5.heap.size rfl (insL I15u) rfl _ Tryz.underlying34 rfl info_ins (ins_one _) HTH.out ?_;intro V4 hV hl;clear hl;have HLn:=Lib.hid (HL.out.put zeroA 34 (insL I15u) rfl _ rfl V4 hV);clear hV)
 have HL:=Lib.hid HLn.out
 clear HLn HTH
 go_wp2_with (first
  |(refine wpList_load_mid rfl 29 (.tmp 7) rfl w1.heap.size 0 rfl (staL (staAB a b')) _ (HL.out.at_ _ _ (by simp)) Tryz.underlying29 rfl info_sta ?_)
  |(refine wpList_load_mid rfl 34 (.tmp 8) rfl w2.heap.size 0 rfl (insL I15x) _ (HL.out.at_ _ _ (by simp)) Tryz.underlying34 rfl info_ins ?_))
 ((with_reducible refine(lab_do HDO HL.out HSOK.out dec_15x).mono ?_);rintro e w6 ⟨Fx,pgx,rfl,hl3⟩)
 have HAx:=Lib.hid (alu_15x g boxD (staAB a b'))
 have HKx:=Lib.hid (alu_ok HSOK.out g boxD I15x)
 obtain⟨g1,hgn⟩:∃z,aluG g boxD (staAB a b') I15x=z:=⟨_,rfl⟩
 have he:=HAx.out.1
 rw[hgn]at hl3
 obtain⟨T1,hT⟩:∃z,AluT g boxD (staAB a b') I15x=z:=⟨_,rfl⟩
 have HAx:=HAx.out.2
 have HKx:=HKx.out
 rw[hT]at HAx HKx
 have HAx:=Lib.hid HAx
 have HKx:=Lib.hid HKx
 rw[hT,he]
 have HL:=Lib.hid hl3
 clear hl3 hT he hgn
 have HLOW6:=Lib.hid (HL.out.low.size)
 have HLT6:=Lib.hid (fun p (hp:p∈([(w5.heap.size,insL I15u),(w4.heap.size,insL I15z),(w3.heap.size,insL I15y),(w2.heap.size,insL I15x),(w1.heap.size,staL (staAB a b'))]:List (Nat×List Value)))=>HL.out.lt p.1 p.2 hp)
 have HTH:=Lib.hid (there_alloc_new w6 staZA 29 23 (by decide))
 go_upto_region 11 with(refine store_row rfl 29 (.tmp 16) (.tmp 67) rfl w6.heap.size rfl (staL T1) rfl _ Tryz.underlying29 rfl info_sta (sta_one T1) HTH.out ?_;intro V5 hV hl;clear hl;have HLn:=Lib.hid (HL.out.put staZA 29 (staL T1) rfl _ rfl V5 hV);clear hV)
 have HL:=Lib.hid HLn.out
 clear HLn HTH
 have HNEWy:=Lib.hid (show w0.heap.size≤w6.heap.size by exact HLOW6.out)
 have HOTHy:=Lib.hid (show ∀p∈[(w5.heap.size,insL I15u),(w4.heap.size,insL I15z),(w3.heap.size,insL I15y),(w2.heap.size,insL I15x),(w1.heap.size,staL (staAB a b'))],p∈((w6.heap.size,staL T1) :: [(w5.heap.size,insL I15u),(w4.heap.size,insL I15z),(w3.heap.size,insL I15y),(w2.heap.size,insL I15x),(w1.heap.size,staL (staAB a b'))]:List (Nat×List Value))∧p.1≠w6.heap.size from fun p hp=>⟨List.mem_cons_of_mem _ hp,fun e=>by have:=HLT6.out p hp;omega⟩)
 go_wp2_with (first
  |(refine wpList_load_mid rfl 29 (.tmp 16) rfl w6.heap.size 0 rfl (staL T1) _ (HL.out.at_ _ _ (by simp)) Tryz.underlying29 rfl info_sta ?_)
  |(refine wpList_load_mid rfl 34 (.tmp 10) rfl w3.heap.size 0 rfl (insL I15y) _ (HL.out.at_ _ _ (by simp)) Tryz.underlying34 rfl info_ins ?_))
 ((with_reducible refine(lab_do HDO HL.out HKx.out dec_15y).mono ?_);rintro e w7 ⟨Fy,pgy,rfl,hl3⟩)
 have HAy:=Lib.hid (alu_15y g1 boxD T1)
 have HKy:=Lib.hid (alu_ok HKx.out g1 boxD I15y)
 obtain⟨g2,hgn⟩:∃z,aluG g1 boxD T1 I15y=z:=⟨_,rfl⟩
 have he:=HAy.out.1
 rw[hgn]at hl3
 obtain⟨T2,hT⟩:∃z,AluT g1 boxD T1 I15y=z:=⟨_,rfl⟩
 have HAy:=HAy.out.2
 have HKy:=HKy.out
 rw[hT]at HAy HKy
 have HAy:=Lib.hid HAy
 have HKy:=Lib.hid HKy
 rw[hT,he]
 have HL:=Lib.hid hl3
 clear hl3 hT he hgn
 have HTH:=Lib.hid (HL.out.there w6.heap.size (staL T1) (by simp))
 go_upto_region 12 with(refine store_row rfl 29 (.tmp 16) (.tmp 74) rfl w6.heap.size rfl (staL T2) rfl _ Tryz.underlying29 rfl info_sta (sta_one T2) HTH.out ?_;intro V6 hV hl;clear hl;have HLn:=Lib.hid (HL.out.reput w6.heap.size (staL T2) (staL T1) (by simp) rfl HNEWy.out [(w5.heap.size,insL I15u),(w4.heap.size,insL I15z),(w3.heap.size,insL I15y),(w2.heap.size,insL I15x),(w1.heap.size,staL (staAB a b'))] HOTHy.out V6 hV);clear hV)
 have HL:=Lib.hid HLn.out
 clear HLn HTH
 go_wp2_with (first
  |(refine wpList_load_mid rfl 29 (.tmp 7) rfl w1.heap.size 0 rfl (staL (staAB a b')) _ (HL.out.at_ _ _ (by simp)) Tryz.underlying29 rfl info_sta ?_)
  |(refine wpList_load_mid rfl 34 (.tmp 12) rfl w4.heap.size 0 rfl (insL I15z) _ (HL.out.at_ _ _ (by simp)) Tryz.underlying34 rfl info_ins ?_))
 ((with_reducible refine(lab_do HDO HL.out HSOK.out dec_15z).mono ?_);rintro e w8 ⟨Fz,pgz,rfl,hl3⟩)
 have HAz:=Lib.hid (alu_15z g2 boxD (staAB a b'))
 have HKz:=Lib.hid (alu_ok HSOK.out g2 boxD I15z)
 obtain⟨g3,hgn⟩:∃z,aluG g2 boxD (staAB a b') I15z=z:=⟨_,rfl⟩
 have he:=HAz.out.1
 rw[hgn]at hl3
 obtain⟨U1,hT⟩:∃z,AluT g2 boxD (staAB a b') I15z=z:=⟨_,rfl⟩
 have HAz:=HAz.out.2
 have HKz:=HKz.out
 rw[hT]at HAz HKz
 have HAz:=Lib.hid HAz
 have HKz:=Lib.hid HKz
 rw[hT,he]
 have HL:=Lib.hid hl3
 clear hl3 hT he hgn
 have HLOW8:=Lib.hid (HL.out.low.size)
 have HLT8:=Lib.hid (fun p (hp:p∈([(w6.heap.size,staL T2),(w5.heap.size,insL I15u),(w4.heap.size,insL I15z),(w3.heap.size,insL I15y),(w2.heap.size,insL I15x),(w1.heap.size,staL (staAB a b'))]:List (Nat×List Value)))=>HL.out.lt p.1 p.2 hp)
 have HTH:=Lib.hid (there_alloc_new w8 staZA 29 23 (by decide))
 go_upto_region 13 with(refine store_row rfl 29 (.tmp 19) (.tmp 81) rfl w8.heap.size rfl (staL U1) rfl _ Tryz.underlying29 rfl info_sta (sta_one U1) HTH.out ?_;intro V7 hV hl;clear hl;have HLn:=Lib.hid (HL.out.put staZA 29 (staL U1) rfl _ rfl V7 hV);clear hV)
 have HL:=Lib.hid HLn.out
 clear HLn HTH
 have HNEWu:=Lib.hid (show w0.heap.size≤w8.heap.size from HLOW8.out)
 have HOTHu:=Lib.hid (show ∀p∈[(w6.heap.size,staL T2),(w5.heap.size,insL I15u),(w4.heap.size,insL I15z),(w3.heap.size,insL I15y),(w2.heap.size,insL I15x),(w1.heap.size,staL (staAB a b'))],p∈((w8.heap.size,staL U1) :: [(w6.heap.size,staL T2),(w5.heap.size,insL I15u),(w4.heap.size,insL I15z),(w3.heap.size,insL I15y),(w2.heap.size,insL I15x),(w1.heap.size,staL (staAB a b'))]:List (Nat×List Value))∧p.1≠w8.heap.size from fun p hp=>⟨List.mem_cons_of_mem _ hp,fun e=>by have:=HLT8.out p hp;omega⟩)
 go_wp2_with (first
  |(refine wpList_load_mid rfl 29 (.tmp 19) rfl w8.heap.size 0 rfl (staL U1) _ (HL.out.at_ _ _ (by simp)) Tryz.underlying29 rfl info_sta ?_)
  |(refine wpList_load_mid rfl 34 (.tmp 14) rfl w5.heap.size 0 rfl (insL I15u) _ (HL.out.at_ _ _ (by simp)) Tryz.underlying34 rfl info_ins ?_))
 ((with_reducible refine(lab_do HDO HL.out HKz.out dec_15u).mono ?_);rintro e w9 ⟨Fu,pgu,rfl,hl3⟩)
 have HAu:=Lib.hid (alu_15u g3 boxD U1)
 have HKu:=Lib.hid (alu_ok HKz.out g3 boxD I15u)
 obtain⟨g4,hgn⟩:∃z,aluG g3 boxD U1 I15u=z:=⟨_,rfl⟩
 have he:=HAu.out.1
 rw[hgn]at hl3
 obtain⟨U2,hT⟩:∃z,AluT g3 boxD U1 I15u=z:=⟨_,rfl⟩
 have HAu:=HAu.out.2
 have HKu:=HKu.out
 rw[hT]at HAu HKu
 have HAu:=Lib.hid HAu
 have HKu:=Lib.hid HKu
 rw[hT,he]
 have HL:=Lib.hid hl3
 clear hl3 hT he hgn
 have HTH:=Lib.hid (HL.out.there w8.heap.size (staL U1) (by simp))
 go_upto_region 14 with(refine store_row rfl 29 (.tmp 19) (.tmp 88) rfl w8.heap.size rfl (staL U2) rfl _ Tryz.underlying29 rfl info_sta (sta_one U2) HTH.out ?_;intro V8 hV hl;clear hl;have HLn:=Lib.hid (HL.out.reput w8.heap.size (staL U2) (staL U1) (by simp) rfl HNEWu.out [(w6.heap.size,staL T2),(w5.heap.size,insL I15u),(w4.heap.size,insL I15z),(w3.heap.size,insL I15y),(w2.heap.size,insL I15x),(w1.heap.size,staL (staAB a b'))] HOTHu.out V8 hV);clear hV)
 have HL:=Lib.hid HLn.out
 clear HLn HTH
 have rT:=HL.out.at_ w6.heap.size (staL T2) (by simp)
 have rU:=HL.out.at_ w8.heap.size (staL U2) (by simp)
 obtain⟨X0,hX0⟩:∃z,T2.r 0=z:=⟨_,rfl⟩
 obtain⟨X2,hX2⟩:∃z,T2.r 2=z:=⟨_,rfl⟩
 obtain⟨XC,hXC⟩:∃z,T2.c=z:=⟨_,rfl⟩
 obtain⟨Z0,hZ0⟩:∃z,U2.r 0=z:=⟨_,rfl⟩
 obtain⟨Z2,hZ2⟩:∃z,U2.r 2=z:=⟨_,rfl⟩
 obtain⟨ZC,hZC⟩:∃z,U2.c=z:=⟨_,rfl⟩
 have q0:V8.cell? ⟨w6.heap.size,0,none⟩=some (.int .u32 X0):=by rw[←hX0];exact rT 0 _ (sta_r T2 0 (by decide))
 have q2:V8.cell? ⟨w6.heap.size,2,none⟩=some (.int .u32 X2):=by rw[←hX2];exact rT 2 _ (sta_r T2 2 (by decide))
 have q9:V8.cell? ⟨w6.heap.size,9,none⟩=some (.bool XC):=by rw[←hXC];exact rT 9 (.bool T2.c) rfl
 have p0:V8.cell? ⟨w8.heap.size,0,none⟩=some (.int .u32 Z0):=by rw[←hZ0];exact rU 0 _ (sta_r U2 0 (by decide))
 have p2:V8.cell? ⟨w8.heap.size,2,none⟩=some (.int .u32 Z2):=by rw[←hZ2];exact rU 2 _ (sta_r U2 2 (by decide))
 have p9:V8.cell? ⟨w8.heap.size,9,none⟩=some (.bool ZC):=by rw[←hZC];exact rU 9 (.bool U2.c) rfl
 obtain⟨x1,x2,x3,x4⟩:=HAx.out
 obtain⟨y1,y2,y3⟩:=HAy.out
 obtain⟨z1,z2,z3,z4⟩:=HAz.out
 obtain⟨u1,u2,u3⟩:=HAu.out
 obtain⟨⟨a0,a1⟩,b0,b1⟩:=HAB.out
 obtain⟨s1,s2,⟨s3,s4⟩,s5,s6⟩:=sum_two a b' X0 X2 T1.c XC a0 a1 b0 b1 (by rw[←hX0,y2];exact x1) x4 (by rw[←hX2,y1,x2,x3];rfl) (by rw[←hXC,y3,x2,x3];rfl)
 obtain⟨t1,t2,⟨t3,t4⟩,t5,t6⟩:=dif_two a b' Z0 Z2 U1.c ZC a0 a1 b0 b1 (by rw[←hZ0,u2];exact z1) z4 (by rw[←hZ2,u1,z2,z3];rfl) (by rw[←hZC,u3,z2,z3];rfl)
 have HB:=Lib.hid (below_step HB0.out HL.out.low)
 clear x1 x2 x3 x4 y1 y2 y3 z1 z2 z3 z4 u1 u2 u3 hX0 hX2 hXC hZ0 hZ2 hZC rT rU
 have w1':IntKind.u64.wrap (a+b')=(a+b')%18446744073709551616:=by simp[IntKind.wrap,IntKind.bits,IntKind.signed]
 have w2':IntKind.u64.wrap (a-b')=(a-b')%18446744073709551616:=by simp[IntKind.wrap,IntKind.bits,IntKind.signed]
 have o1:bits .or .u64 (X2*4294967296) X0=IntKind.u64.wrap (a+b'):=(or_words X2 X0 s5 s6 s3 s4).trans (s1.trans w1'.symm)
 have o2:bits .or .u64 (Z2*4294967296) Z0=IntKind.u64.wrap (a-b'):=(or_words Z2 Z0 t5 t6 t3 t4).trans (t1.trans w2'.symm)
 rw[←w1']at s2
 clear w1' w2' s1 t1
 go_wp2_with fail
 go_returns
 exact⟨rfl,HB.out⟩
end Go.Proofs.YtmdncgfheeijaaaGreat
