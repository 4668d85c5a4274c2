import Derived.Test.YtmdncgfheeijaaaGreatKUG25
import Derived.Test.YtmdncgfheeijaaaGreatKUG48
namespace Go.Proofs.YtmdncgfheeijaaaGreat
open Go.ChangeShapes Go.WideShapes Go.ChangeAt Go.RowKit
set_option maxRecDepth 100000
def xO(q:Int):Opd:=⟨3,0,-1,-1,1,q⟩
def xI(k:Nat)(q:Int):Ins:=⟨22,0,4,xO q,regO 1 (k:Int),0,false,6⟩
theorem four_low(q:Int):four9 q 0 0 0=q:=by unfold four9;omega
theorem one_xI(k:Nat)(hk:k<8)(q:Int):oneF 6 (lst [135,5+8*(k:Int),q,0,0,0])=(xI k q,0):=by
 have h:oneF 6 (lst [135,5+8*(k:Int),q,0,0,0])=(xI k (four9 q 0 0 0),0):=by
  rcases(show k=0∨k=1∨k=2∨k=3∨k=4∨k=5∨k=6∨k=7 by omega)with rfl|rfl|rfl|rfl|rfl|rfl|rfl|rfl<;>kernel_rfl
 rwa[four_low]at h
theorem xO_of(s:Sta)(q:Int)(q0:0≤q)(q1:q<4294967296):ofF s (xO q)=q:=by
 show(q+regN s (-1)+regN s (-1)*1)%4294967296=q
 rw[show regN s (-1)=0 from rfl]
 omega
theorem xfit(q:Int)(h:q<250):fitB 36864 256 q (widN 4)=true:=by
 unfold fitB segR
 rw[show(widN 4:Int)=4 from rfl,clampN_id 4 (by decide) (by decide),decide_eq_true (by decide),Bool.true_and]
 exact decide_eq_true (by omega)
theorem xst(q:Int)(h:q<250):stE boxD q 4=0:=by
 unfold stE atE
 show(if mayB true true false 1=true then if fitB 36864 256 q (widN 4)=true then(0:Int)else 24 else 25)=0
 rw[xfit q h,if_pos (by decide),if_pos rfl]
theorem xld(q:Int)(h:q<250):ldE boxD q 4=0:=by
 unfold ldE atE
 show(if mayB true true false 0=true then if fitB 36864 256 q (widN 4)=true then(0:Int)else 24 else 25)=0
 rw[xfit q h,if_pos (by decide),if_pos rfl]
def wordG(g:Int→Int)(q:Int):Int:=leV g (36864+q) 4
theorem xldV(g:Int→Int)(q:Int)(h:q<250):ldV g boxD q 4=wordG g q:=by
 unfold ldV
 rw[xld q h,if_pos rfl]
 rfl
theorem word_lo{g:Int→Int}(hg:∀a,0≤g a∧g a<256)(q:Int):0≤wordG g q∧wordG g q<4294967296:=by
 have h0:=hg (place (36864+q) 0)
 have h1:=hg (place (36864+q) 1)
 have h2:=hg (place (36864+q) 2)
 have h3:=hg (place (36864+q) 3)
 show 0≤0+g (place (36864+q) 0)*256^0+g (place (36864+q) 1)*256^1+g (place (36864+q) 2)*256^2+g (place (36864+q) 3)*256^3∧0+g (place (36864+q) 0)*256^0+g (place (36864+q) 1)*256^1+g (place (36864+q) 2)*256^2+g (place (36864+q) 3)*256^3<4294967296
 omega
theorem word_four(g:Int→Int)(q:Int):wordG g q=g (place (36864+q) 0)+g (place (36864+q) 1)*256+g (place (36864+q) 2)*65536+g (place (36864+q) 3)*16777216:=by
 show 0+g (place (36864+q) 0)*256^0+g (place (36864+q) 1)*256^1+g (place (36864+q) 2)*256^2+g (place (36864+q) 3)*256^3=_
 omega
theorem byte_word{g:Int→Int}(hg:∀a,0≤g a∧g a<256)(q:Int)(i:Nat)(hi:i<4):byteOf (wordG g q) i=g (place (36864+q) i):=by
 have h0:=hg (place (36864+q) 0)
 have h1:=hg (place (36864+q) 1)
 have h2:=hg (place (36864+q) 2)
 have h3:=hg (place (36864+q) 3)
 rw[word_four]
 unfold byteOf
 rcases(show i=0∨i=1∨i=2∨i=3 by omega)with rfl|rfl|rfl|rfl
 ·show _/256^0%256=_
  omega
 ·show _/256^1%256=_
  omega
 ·show _/256^2%256=_
  omega
 ·show _/256^3%256=_
  omega
theorem st_back{g:Int→Int}(hg:∀a,0≤g a∧g a<256)(q y:Int)(h:q<250):stG (stG g boxD q 4 y) boxD q 4 (wordG g q)=g:=by
 unfold stG
 rw[xst q h,if_pos rfl,if_pos rfl,show widN 4=4 from rfl]
 show writeG (writeG g (36864+q) (byteOf y) 4) (36864+q) (byteOf (wordG g q)) 4=g
 funext a
 by_cases ha:∃i,i<4∧a=place (36864+q) i
 ·obtain⟨i,hi,rfl⟩:=ha
  rw[writeG_hit _ _ _ 4 i (by decide) hi,byte_word hg q i hi]
 ·rw[writeG_far _ _ _ a 4 (fun i hi e=>ha ⟨i,hi,e⟩),writeG_far _ _ _ a 4 (fun i hi e=>ha ⟨i,hi,e⟩)]
theorem st_word(g:Int→Int)(q y:Int)(h:q<250)(y0:0≤y)(y1:y<4294967296):wordG (stG g boxD q 4 y) q=y:=by
 unfold stG
 rw[xst q h,if_pos rfl,show widN 4=4 from rfl]
 have h4:=leV_byteOf (writeG g (36864+q) (byteOf y) 4) (36864+q) y y0 4 (fun i hi=>writeG_hit _ _ _ 4 i (by decide) hi)
 show leV (writeG g (36864+q) (byteOf y) 4) (36864+q) 4=y
 rw[h4]
 show y%256^4=y
 omega
theorem alu_xI(g:Int→Int)(s:Sta)(k:Nat)(hk:k<8)(q:Int)(q0:0≤q)(h:q<250):aluE g boxD s (xI k q)=0∧AluT g boxD s (xI k q)={ s with r:=putN s.r k (wordG g q%4294967296%4294967296) }∧aluG g boxD s (xI k q)=stG g boxD q 4 (s.r k%4294967296):=by
 have ho:=xO_of s q q0 (by omega)
 have hld:ldO boxD s (xO q) 4=true:=by
  unfold ldO
  rw[if_pos (show(xO q).kind=3 from rfl),ho,xld q h]
  rfl
 have hst:putO boxD s (xO q) 4=true:=by
  unfold putO
  rw[if_pos (show(xO q).kind=3 from rfl),ho,xst q h]
  rfl
 have hok:okA boxD s (xI k q)=true:=by
  unfold okA
  show((onlyB 22 || ldO boxD s (xO q) 4)&&((1:Int)==0 || ldO boxD s (regO 1 (k:Int)) 4))=true
  rw[hld]
  rfl
 have hx:xA g boxD s (xI k q)=wordG g q%4294967296:=by
  show(if(xO q).kind=3 then ldV g boxD (ofF s (xO q)) 4 else getF s (xO q))%4294967296=_
  rw[if_pos (show(xO q).kind=3 from rfl),ho,xldV g q h]
 have hkk:0≤(k:Int)∧(k:Int)≤7:=⟨by omega,by omega⟩
 have hy:yA g boxD s (xI k q)=s.r k%4294967296:=by
  show(if(1:Int)=3 then ldV g boxD (ofF s (regO 1 (k:Int))) 4 else getF s (regO 1 (k:Int)))%4294967296=_
  rw[if_neg (by decide)]
  show(if(1:Int)=4 then(0:Int)else if 0≤(k:Int)∧(k:Int)≤7 then(if(1:Int)=1 then s.r (k:Int).toNat else _)else 0)%4294967296=_
  rw[if_neg (by decide),if_pos hkk,if_pos rfl]
  rfl
 have hb:putO boxD s (regO 1 (k:Int)) 4=true:=rfl
 have hs:putS (putS s (xO q) (s.r k%4294967296)) (regO 1 (k:Int)) (wordG g q%4294967296)={ s with r:=putN s.r k (wordG g q%4294967296%4294967296) }:=by
  show setF s (regO 1 (k:Int)) (wordG g q%4294967296)=_
  unfold setF
  rw[if_pos (show 0≤(regO 1 (k:Int)).reg∧(regO 1 (k:Int)).reg≤7 from hkk),if_pos (show(regO 1 (k:Int)).kind=1 from rfl)]
  rfl
 refine⟨?_,?_,?_⟩
 ·unfold aluE
  rw[if_neg (show ¬soleB (xI k q).op=true from(by decide:¬soleB 22=true)),if_pos hok,hx,hy]
  show(if putO boxD s (xO q) 4&&putO boxD s (regO 1 (k:Int)) 4 then(0:Int)else 2)=0
  rw[hst,hb]
  rfl
 ·have he:aluT g boxD s (xI k q)={ s with r:=putN s.r k (wordG g q%4294967296%4294967296) }:=by
   unfold aluT
   rw[if_neg (show ¬soleB (xI k q).op=true from(by decide:¬soleB 22=true)),if_pos hok,hx,hy]
   show(if putO boxD s (xO q) 4&&putO boxD s (regO 1 (k:Int)) 4 then putS (putS s (xO q) (s.r k%4294967296)) (regO 1 (k:Int)) (wordG g q%4294967296)else s)=_
   rw[hst,hb,hs]
   rfl
  unfold AluT
  rw[he]
  split
  ·rfl
  ·rename_i hn
   refine absurd ?_ hn
   unfold aluE
   rw[if_neg (show ¬soleB (xI k q).op=true from(by decide:¬soleB 22=true)),if_pos hok,hx,hy]
   show(if putO boxD s (xO q) 4&&putO boxD s (regO 1 (k:Int)) 4 then(0:Int)else 2)=0
   rw[hst,hb]
   rfl
 ·unfold aluG
  rw[if_neg (show ¬soleB (xI k q).op=true from(by decide:¬soleB 22=true)),if_pos hok,hx,hy]
  show(if putO boxD s (xO q) 4&&putO boxD s (regO 1 (k:Int)) 4 then putG (putG g boxD s (xO q) 4 (s.r k%4294967296)) boxD s (regO 1 (k:Int)) 4 (wordG g q%4294967296)else g)=_
  rw[hst,hb]
  show putG g boxD s (xO q) 4 (s.r k%4294967296)=_
  unfold putG
  rw[if_pos (show(xO q).kind=3 from rfl),ho]
theorem putN_back(r:Nat→Int)(k:Nat)(v:Int):putN (putN r k v) k (r k)=r:=by
 funext i
 unfold putN
 by_cases h:i=k
 ·rw[if_pos h,h]
 ·rw[if_neg h,if_neg h]
theorem alu_xx{g:Int→Int}(hg:∀a,0≤g a∧g a<256){s:Sta}(hs:StaOk s)(k:Nat)(hk:k<8)(q:Int)(q0:0≤q)(h:q<250):∃T g',AluT g boxD s (xI k q)=T∧aluG g boxD s (xI k q)=g'∧aluE g boxD s (xI k q)=0∧AluT g' boxD T (xI k q)=s∧aluG g' boxD T (xI k q)=g∧aluE g' boxD T (xI k q)=0∧T.r k=wordG g q∧StaOk T:=by
 obtain⟨e1,e2,e3⟩:=alu_xI g s k hk q q0 h
 have hw:=word_lo hg q
 have hr:=hs.r k hk
 rw[show wordG g q%4294967296%4294967296=wordG g q by omega]at e2
 rw[show s.r k%4294967296=s.r k by omega]at e3
 refine⟨_,_,e2,e3,e1,?_⟩
 have hT:({ s with r:=putN s.r k (wordG g q) }:Sta).r k=wordG g q:=by
  show putN s.r k (wordG g q) k=_
  unfold putN
  rw[if_pos rfl]
 obtain⟨f1,f2,f3⟩:=alu_xI (stG g boxD q 4 (s.r k)) { s with r:=putN s.r k (wordG g q) } k hk q q0 h
 rw[st_word g q (s.r k) h hr.1 hr.2,show s.r k%4294967296%4294967296=s.r k by omega]at f2
 rw[hT,show wordG g q%4294967296=wordG g q by omega,st_back hg q (s.r k) h]at f3
 refine⟨f2.trans ?_,f3,f1,hT,put_ok hs.r hw k,hs.x,hs.ip⟩
 show({ s with r:=putN (putN s.r k (wordG g q)) k (s.r k) }:Sta)=s
 rw[putN_back]
theorem or_up32(x y:Int)(n:Nat)(x0:0≤x)(x1:x<((2^n:Nat):Int))(y0:0≤y)(hy:x+y*((2^n:Nat):Int)<4294967296):bits .or .u32 x (y*((2^n:Nat):Int))=x+y*((2^n:Nat):Int):=by
 obtain⟨m,rfl⟩:=Int.eq_ofNat_of_zero_le x0
 obtain⟨j,rfl⟩:=Int.eq_ofNat_of_zero_le y0
 have hm:m<2^n:=by omega
 have hj:m+j*2^n<4294967296:=by
  have h2:((m+j*2^n:Nat):Int)<4294967296:=by push_cast;push_cast at hy;exact hy
  omega
 rw[show(j:Int)*((2^n:Nat):Int)=((j*2^n:Nat):Int)by push_cast;rfl,u32_or_nat _ _ (by omega) (by omega),Nat.or_comm,or_shift j m n hm]
 push_cast
 omega
theorem info_r4d:(Tryz.prog.info? 23).map (·.size)=some 8:=by kernel_rfl
theorem quietC_eql_sta{C:World→Prop}{K:Act→Prop}{a:Act}{D:Option Tmp}{ty:TypeId}{pos:String}{af:Array Edge}{g:Option (Nat×Bool)}(x y:Operand)(s:Sta)(hs:WfS s)(hx:a.eval x=staV s)(hy:a.eval y=staV s)(hK:(Oper.mk D (.move (.const (.bool true))) ty pos af g).quiet Tryz.prog a C K):(Oper.mk D (.binOp .eql 29 x y 29) ty pos af g).quiet Tryz.prog a C K:=
 quietC_val _ (.bool true) (fun u _=>by
  have hg:(eqGuard .eql 29 x y (staV s) (staV s)).run Tryz.prog u=.ok () u:=run_eqGuard_agg u .eql 29 x y _ _ sta_guard1
  have he:(binOp .eql 29 (staV s) (staV s)).run Tryz.prog u=.ok (.bool true) u:=sta_eql u s hs
  unfold execOp
  simp only[Sem.run_bind,hx,hy,hg,he,Result.andThen_ok,Sem.run_pure]) hK
theorem and7q:∀c:Fin 256,bits .and .u8 ((c:Nat):Int) 7=((c:Nat):Int)%8:=by decide +kernel
theorem or5q:∀k:Fin 8,bits .or .u8 5 (((k:Nat):Int)*8)=5+8*((k:Nat):Int):=by decide +kernel
set_option maxHeartbeats 8000000
theorem aluxchg_walk(HDO:DoC 17)(HIS:IsC 15)(HON:OneC 10)(r:Nat→Int)(at' rg n:Int)(hr:∀i,i<8→0≤r i∧r i<4294967296)(p0:0≤at')(p1:at'<256)(g0:0≤rg)(g1:rg<256)(n0:0≤n)(n1:n<4294967296)(w:World):
  Calls Tryz.prog 8 #[.agg (rowL_u32 r).toArray,.int .u8 at',.int .u8 rg,.int .u32 n] w fun e w'=>e=.returned (.bool true)∧Below w.heap.size w w':=by
 have HK:=Lib.hid (known15_any HDO HIS HON)
 have HSS:=(fun u=>seatstate_any r (fun _=>0) hr (fun _ _=>⟨Int.le_refl _,by show(0:Int)<18446744073709551616;decide⟩) 0 0 (by decide) (by decide) (by decide) (by decide) u)
 rw[show(rowL_u64 fun _=>0).toArray=#[.int .u64 0,.int .u64 0,.int .u64 0,.int .u64 0,.int .u64 0,.int .u64 0,.int .u64 0,.int .u64 0]from rfl]at HSS
 have HSS:=Lib.hid HSS
 have HBX:=Lib.hid (fun u=>boxes15_any (.slice none 0 0) 0 (fun _=>0) n n0 n1 (by decide) (fun _=>⟨by decide,by decide⟩) u (slc_nil8 _))
 obtain⟨k,hk⟩:∃k:Nat,rg%8=k:=⟨(rg%8).toNat,by omega⟩
 have k8:k<8:=by omega
 have hA:bits .and .u8 rg 7=(k:Int):=by
  obtain⟨c,rfl⟩:=Int.eq_ofNat_of_zero_le g0
  rw[←hk]
  exact and7q ⟨c,by omega⟩
 have hO5:bits .or .u8 5 ((k:Int)*8)=5+8*(k:Int):=or5q ⟨k,k8⟩
 obtain⟨q,hq⟩:∃q,at'%250=q:=⟨_,rfl⟩
 have q0:0≤q:=by omega
 have q1:q<250:=by omega
 have hks:(k:Int)<8:=by omega
 have HQ:=Lib.hid (And.intro q0 q1)
 have HK8:=Lib.hid k8
 have lok:∀i,0≤lst [135,5+8*(k:Int),q,0,0,0] i∧lst [135,5+8*(k:Int),q,0,0,0] i<256:=lst_ok (by
  intro x hx
  simp only[List.mem_cons,List.not_mem_nil,or_false]at hx
  rcases hx with rfl|rfl|rfl|rfl|rfl|rfl<;>omega)
 have h1:=one_xI k k8 q
 have HDI:=Lib.hid (show DecI (xI k q)from⟨⟨_,_,lok,h1⟩,rfl⟩)
 have HONE:=(fun v u hu=>HON v 6 (lst [135,5+8*(k:Int),q,0,0,0]) lok (by decide) u hu)
 rw[h1]at HONE
 have HONE:=Lib.hid HONE
 clear hr n0 n1 lok h1 k8 g0 g1 hk
 go_enter Tryz.func8,Tryz.ntmps8
 go_wp2_with fail
 ((with_reducible refine(HK.out _).mono ?_);rintro e w0 ⟨rfl,c1⟩)
 have h0:(w.alloc (.cells (rowL_u32 r).toArray 23)).heap[w.heap.size]?=some (.cells (rowL_u32 r).toArray 23 (0,0)):=by show(w.heap.push _)[w.heap.size]?=_;simp
 have HR1:=Lib.hid ((c1.block _ (Array.getElem?_eq_some_iff.1 h0).1).trans h0)
 have HB0:=Lib.hid (below_step (below_last (Below.refl _ _) _) c1)
 clear c1 h0
 go_wp2_with fail
 ((with_reducible refine(HBX.out _).mono ?_);rintro e w1 ⟨b,F,pg,rb,R,rfl,ht⟩)
 obtain⟨g,hg⟩:∃g,boxG (fun _=>0) 0 n=g:=⟨_,rfl⟩
 rw[hg]at ht
 have HL:=Lib.hid ((Lab.start ht).old _ _ _ HR1.out)
 clear ht hg
 go_wp2_with (refine wpList_load_mid rfl 23 (.tmp 4) rfl w.heap.size 0 rfl (rowL_u32 r) _ (HL.out.at_ _ _ (by simp)) Tryz.underlying23 rfl info_r4d ?_)
 ((with_reducible refine(HSS.out _).mono ?_);rintro e w2 ⟨s,rfl,hs,b2⟩)
 have HSOK:=Lib.hid hs
 have HL2:=Lib.hid (HL.out.next b2)
 have HTH:=Lib.hid (there_alloc_new w2 staZA 29 23 (by decide))
 clear b2 hs HL
 go_upto_region 5 with(refine store_row rfl 29 (.tmp 11) (.tmp 28) rfl w2.heap.size rfl (staL s) rfl _ Tryz.underlying29 rfl info_sta (sta_one s) HTH.out ?_;intro V2 hV hl;clear hl;have HL:=Lib.hid (HL2.out.put staZA 29 (staL s) rfl _ rfl V2 hV);clear hV)
 clear HL2 HTH
 go_wp2_with fail
 ((with_reducible refine(HONE.out _ _ (slc_new V2 _ _ 6 6 _ (Nat.le_refl _) (by intro i hi;rcases(show i=0∨i=1∨i=2∨i=3∨i=4∨i=5 by omega)with rfl|rfl|rfl|rfl|rfl|rfl<;>simp[lst]))).mono ?_);rintro e w3 ⟨rfl,b3⟩)
 have HL:=Lib.hid (HL.out.next (below_step (below_last (Below.refl _ _) _) b3))
 clear b3
 unfold insR
 dsimp only
 rw[show insV (xI k q)=.agg (insL (xI k q)).toArray from rfl]
 obtain⟨I,hI⟩:∃I,xI k q=I:=⟨_,rfl⟩
 have HG:=Lib.hid (fun a=>HL.out.two.ref.byte a)
 obtain⟨T,g',x1,x2,x3,x4,x5,x6,x7,x8⟩:=alu_xx HG.out HSOK.out k HK8.out q HQ.out.1 HQ.out.2
 have HDI:=HDI.out
 rw[hI]at HDI x1 x2 x3 x4 x5 x6 ⊢
 have HDI:=Lib.hid HDI
 have X1:=Lib.hid x1
 have X2:=Lib.hid x2
 have X3:=Lib.hid x3
 have X4:=Lib.hid x4
 have X5:=Lib.hid x5
 have X6:=Lib.hid x6
 have X7:=Lib.hid x7
 have HTOK:=Lib.hid x8
 clear x1 x2 x3 x4 x5 x6 x7 x8 hI
 have HTH:=Lib.hid (there_alloc_new w3 zeroA 34 18 (by decide))
 go_upto_region 6 with(refine store_row rfl 34 (.tmp 12) (.tmp 38) rfl w3.heap.size rfl (insL I) rfl _ Tryz.underlying34 rfl info_ins (ins_one _) HTH.out ?_;intro V3 hV hl;clear hl;have HLn:=Lib.hid (HL.out.put zeroA 34 (insL I) rfl _ rfl V3 hV);clear hV)
 have HL:=Lib.hid HLn.out
 clear HLn HTH
 go_wp2_with (first
  |(refine wpList_load_mid rfl 29 (.tmp 11) rfl w2.heap.size 0 rfl (staL s) _ (HL.out.at_ _ _ (by simp)) Tryz.underlying29 rfl info_sta ?_)
  |(refine wpList_load_mid rfl 34 (.tmp 12) rfl w3.heap.size 0 rfl (insL I) _ (HL.out.at_ _ _ (by simp)) Tryz.underlying34 rfl info_ins ?_))
 ((with_reducible refine(lab_do HDO HL.out HSOK.out HDI.out).mono ?_);rintro e w4 ⟨F4,pg4,rfl,hl4⟩)
 rw[X2.out]at hl4
 rw[X1.out,X3.out]
 have HL:=Lib.hid hl4
 clear hl4
 have HTH:=Lib.hid (there_alloc_new w4 staZA 29 23 (by decide))
 go_upto_region 7 with(refine store_row rfl 29 (.tmp 14) (.tmp 45) rfl w4.heap.size rfl (staL T) rfl _ Tryz.underlying29 rfl info_sta (sta_one T) HTH.out ?_;intro V4 hV hl;clear hl;have HLn:=Lib.hid (HL.out.put staZA 29 (staL T) rfl _ rfl V4 hV);clear hV)
 have HL:=Lib.hid HLn.out
 clear HLn HTH
 go_wp2_with (first
  |(refine wpList_load_mid rfl 29 (.tmp 14) rfl w4.heap.size 0 rfl (staL T) _ (HL.out.at_ _ _ (by simp)) Tryz.underlying29 rfl info_sta ?_)
  |(refine wpList_load_mid rfl 34 (.tmp 12) rfl w3.heap.size 0 rfl (insL I) _ (HL.out.at_ _ _ (by simp)) Tryz.underlying34 rfl info_ins ?_))
 ((with_reducible refine(lab_do HDO HL.out HTOK.out HDI.out).mono ?_);rintro e w9 ⟨F9,pg9,rfl,hl9⟩)
 rw[X5.out]at hl9
 rw[X4.out,X6.out]
 have HL:=Lib.hid hl9
 clear hl9
 have HTH:=Lib.hid (there_alloc_new w9 staZA 29 23 (by decide))
 go_upto_region 8 with(refine store_row rfl 29 (.tmp 16) (.tmp 52) rfl w9.heap.size rfl (staL s) rfl _ Tryz.underlying29 rfl info_sta (sta_one s) HTH.out ?_;intro V9 hV hl;clear hl;have HLn:=Lib.hid (HL.out.put staZA 29 (staL s) rfl _ rfl V9 hV);clear hV)
 have HL:=Lib.hid HLn.out
 clear HLn HTH
 obtain⟨p,B,hR⟩:=HL.out.two.ref
 have kr:V9.cell? ⟨rb,0,none⟩=some (.pointer (some ⟨p,0,none⟩)):=(cell_block hR.bus 0).1
 have HRM:=Lib.hid (And.intro hR.ptr hR.map)
 clear hR
 go_wp2_with fail
 ((with_reducible refine(rmread_any p B 4294967296 g (36864+q) 4 _ HRM.out.1 HRM.out.2).mono ?_);rintro e w8 ⟨blk,rfl,l1,l2,hc,b8⟩)
 rw[show readN 4=4 from rfl]
 have HLZ:=Lib.hid (HL.out.next b8)
 have HBZ:=Lib.hid (below_step HB0.out HLZ.out.low)
 obtain⟨v0,hv0⟩:∃z,g (place (36864+q) 0)=z:=⟨_,rfl⟩
 obtain⟨v1,hv1⟩:∃z,g (place (36864+q) 1)=z:=⟨_,rfl⟩
 obtain⟨v2,hv2⟩:∃z,g (place (36864+q) 2)=z:=⟨_,rfl⟩
 obtain⟨v3,hv3⟩:∃z,g (place (36864+q) 3)=z:=⟨_,rfl⟩
 have c0:=hc 0 (by decide)
 have c1:=hc 1 (by decide)
 have c2:=hc 2 (by decide)
 have c3:=hc 3 (by decide)
 have m0:=HG.out (place (36864+q) 0)
 have m1:=HG.out (place (36864+q) 1)
 have m2:=HG.out (place (36864+q) 2)
 have m3:=HG.out (place (36864+q) 3)
 obtain⟨X,hX⟩:∃X,T.r k=X:=⟨_,rfl⟩
 have hX7:=X7.out
 rw[hX,word_four]at hX7
 rw[hv0]at c0 m0 hX7
 rw[hv1]at c1 m1 hX7
 rw[hv2]at c2 m2 hX7
 rw[hv3]at c3 m3 hX7
 have hbz:w9.heap.size<V9.heap.size:=HL.out.lt w9.heap.size (staL s) (by simp)
 have HV0:=Lib.hid (fun u (hu:Below w8.heap.size w8 u)=>(hu.cell (p:=⟨blk,0,none⟩) l2).trans c0)
 have HV1:=Lib.hid (fun u (hu:Below w8.heap.size w8 u)=>(hu.cell (p:=⟨blk,1,none⟩) l2).trans c1)
 have HV2:=Lib.hid (fun u (hu:Below w8.heap.size w8 u)=>(hu.cell (p:=⟨blk,2,none⟩) l2).trans c2)
 have HV3:=Lib.hid (fun u (hu:Below w8.heap.size w8 u)=>(hu.cell (p:=⟨blk,3,none⟩) l2).trans c3)
 have HR16:=Lib.hid (fun u (hu:Below w8.heap.size w8 u)=>(HLZ.out.next hu).at_ w9.heap.size (staL s) (by simp))
 have HR11:=Lib.hid (fun u (hu:Below w8.heap.size w8 u)=>(HLZ.out.next hu).at_ w2.heap.size (staL s) (by simp))
 have HC:=Lib.hid (fun u (hu:Below w8.heap.size w8 u)=>(show u.cell? ⟨w4.heap.size,k,none⟩=some (.int .u32 X)by have h:=(HLZ.out.next hu).at_ w4.heap.size (staL T) (by simp) k _ (sta_r T k HK8.out);rwa[Nat.zero_add,hX]at h))
 have HWF:=Lib.hid (ok_wf HSOK.out)
 obtain⟨Y1,hY1'⟩:∃z,v0+v1*256=z:=⟨_,rfl⟩
 obtain⟨Y2,hY2'⟩:∃z,Y1+v2*65536=z:=⟨_,rfl⟩
 have hY1:bits .or .u32 v0 (v1*256)=Y1:=(or_up32 v0 v1 8 m0.1 m0.2 m1.1 (by show v0+v1*256<4294967296;omega)).trans hY1'
 have hY2:bits .or .u32 Y1 (v2*65536)=Y2:=(or_up32 Y1 v2 16 (by omega) (by show Y1<65536;omega) m2.1 (by show Y1+v2*65536<4294967296;omega)).trans hY2'
 have hY3:bits .or .u32 Y2 (v3*16777216)=X:=(or_up32 Y2 v3 24 (by omega) (by show Y2<16777216;omega) m3.1 (by show Y2+v3*16777216<4294967296;omega)).trans (by rw[hX7,←hY2',←hY1'];rfl)
 obtain⟨u0,u0'⟩:=m0
 obtain⟨u1,u1'⟩:=m1
 obtain⟨u2,u2'⟩:=m2
 obtain⟨u3,u3'⟩:=m3
 clear hc c0 c1 c2 c3 hv0 hv1 hv2 hv3 hX hX7 hY1' hY2' kr b8 l1 l2 hbz
 have hne:=class_const (C:=fun u=>Below w8.heap.size w8 u) (Below.refl w8.heap.size w8)
 go_wp2_with fail
 refine wp_region_quietC (fun u=>Below w8.heap.size w8 u) (by kernel_rfl) (by kernel_rfl) ((Below.refl _ _).drew) ?_
 go_big_quiet_want;go_big_quiet_op;go_big_quiet_on
 go_big_quiet_want;go_big_quiet_op;go_big_quiet_on
 go_big_quiet_want;go_big_quiet_op;go_big_quiet_on
 go_big_quiet_want;go_big_quiet_op;go_big_quiet_on
 go_big_quiet_want;go_big_quiet_op;go_big_quiet_on
 go_big_quiet_want;go_big_quiet_op;go_big_quiet_on
 go_big_quiet_want;go_big_quiet_op;go_big_quiet_on
 go_big_quiet_want;refine quietC_load 29 (.tmp 16) w9.heap.size 0 rfl (staL s) _ HR16.out Tryz.underlying29 rfl info_sta ?_;go_big_quiet_op;go_big_quiet_on
 go_big_quiet_want;refine quietC_load 29 (.tmp 11) w2.heap.size 0 rfl (staL s) _ HR11.out Tryz.underlying29 rfl info_sta ?_;go_big_quiet_op;go_big_quiet_on
 go_big_quiet_want;refine quietC_eql_sta (.tmp 70) (.tmp 71) s HWF.out rfl rfl ?_;go_big_quiet_op;go_big_quiet_on
 go_big_quiet_want;go_big_quiet_op;go_big_quiet_on
 go_big_quiet_want;go_big_quiet_op;go_big_quiet_on
 go_big_quiet_want;go_big_quiet_op;go_big_quiet_on
 go_big_quiet_want;go_big_quiet_op;go_big_quiet_on
 go_big_quiet_want;refine quietC_call 18 #[.tmp 75,.tmp 76] _ #[.pointer (some ⟨b,0,none⟩),.pointer (some ⟨rb,0,none⟩)] (.bool true) (fun u _=>by simp[Act.eval,go_sem]) (fun u hu=>(alike15_low (HLZ.out.next hu).two).mono fun _ _ ⟨h1,_,h2⟩=>⟨h1,below_step hu h2⟩) ?_;go_big_quiet_op;go_big_quiet_on
 go_big_quiet_want;go_big_quiet_op;go_big_quiet_on
 go_big_quiet_want;go_big_quiet_op;go_big_quiet_on
 go_big_quiet_want;go_big_quiet_op;go_big_quiet_on
 go_big_quiet_want;refine quietC_val _ (.int .u8 k) (fun u _=>by simp[execOp,Act.eval,go_sem,hA]) ?_;go_big_quiet_op;go_big_quiet_on
 go_big_quiet_want;go_big_quiet_op;go_big_quiet_on
 go_big_quiet_want;go_big_quiet_op;go_big_quiet_on
 go_big_quiet_want;refine quietC_read 22 (.tmp 83) (.int .u32 X) (fun u hu=>by have:=HC.out u hu;simp[Act.eval,go_sem,this]) ?_;go_big_quiet_op;go_big_quiet_on
 go_big_quiet_want;go_big_quiet_op;go_big_quiet_on
 go_big_quiet_want;go_big_quiet_op;go_big_quiet_on
 go_big_quiet_want;refine quietC_read 5 (.tmp 86) (.int .u8 v0) (fun u hu=>by have:=HV0.out u hu;simp[Act.eval,go_sem,this]) ?_;go_big_quiet_op;go_big_quiet_on
 go_big_quiet_want;go_big_quiet_op;go_big_quiet_on
 go_big_quiet_want;go_big_quiet_op;go_big_quiet_on
 go_big_quiet_want;go_big_quiet_op;go_big_quiet_on
 go_big_quiet_want;refine quietC_read 5 (.tmp 90) (.int .u8 v1) (fun u hu=>by have:=HV1.out u hu;simp[Act.eval,go_sem,this]) ?_;go_big_quiet_op;go_big_quiet_on
 go_big_quiet_want;go_big_quiet_op;go_big_quiet_on
 go_big_quiet_want;go_big_quiet_op;go_big_quiet_on
 go_big_quiet_want;refine quietC_val _ (.int .u32 Y1) (fun u _=>by simp[execOp,Act.eval,go_sem,hY1]) ?_;go_big_quiet_op;go_big_quiet_on
 go_big_quiet_want;go_big_quiet_op;go_big_quiet_on
 go_big_quiet_want;go_big_quiet_op;go_big_quiet_on
 go_big_quiet_want;refine quietC_read 5 (.tmp 96) (.int .u8 v2) (fun u hu=>by have:=HV2.out u hu;simp[Act.eval,go_sem,this]) ?_;go_big_quiet_op;go_big_quiet_on
 go_big_quiet_want;go_big_quiet_op;go_big_quiet_on
 go_big_quiet_want;go_big_quiet_op;go_big_quiet_on
 go_big_quiet_want;refine quietC_val _ (.int .u32 Y2) (fun u _=>by simp[execOp,Act.eval,go_sem,hY2]) ?_;go_big_quiet_op;go_big_quiet_on
 go_big_quiet_want;go_big_quiet_op;go_big_quiet_on
 go_big_quiet_want;go_big_quiet_op;go_big_quiet_on
 go_big_quiet_want;refine quietC_read 5 (.tmp 102) (.int .u8 v3) (fun u hu=>by have:=HV3.out u hu;simp[Act.eval,go_sem,this]) ?_;go_big_quiet_op;go_big_quiet_on
 go_big_quiet_want;go_big_quiet_op;go_big_quiet_on
 go_big_quiet_want;go_big_quiet_op;go_big_quiet_on
 go_big_quiet_want;refine quietC_val _ (.int .u32 X) (fun u _=>by simp[execOp,Act.eval,go_sem,hY3]) ?_;go_big_quiet_op;go_big_quiet_on
 go_big_quiet_want;refine quietC_val _ (.bool true) (fun u _=>by simp[execOp,Act.eval,go_sem]) ?_;go_big_quiet_op;go_big_quiet_on
 go_big_quiet_want;go_big_quiet_op;go_big_quiet_on
 go_big_quiet_want;go_big_quiet_op;go_big_quiet_on
 refine wpQuiet_nil ?_
 intro u hu
 have HBF:=Lib.hid (HBZ.out.trans (hu.mono HBZ.out.size))
 clear hu
 go_wp2_with fail
 go_returns
 exact⟨rfl,HBF.out⟩
end Go.Proofs.YtmdncgfheeijaaaGreat
