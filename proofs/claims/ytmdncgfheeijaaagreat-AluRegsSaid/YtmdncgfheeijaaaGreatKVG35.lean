import Derived.Test.YtmdncgfheeijaaaGreatKVG33
import Derived.Test.YtmdncgfheeijaaaGreatKVG34
namespace Go.Proofs.YtmdncgfheeijaaaGreat
section
open Go.ChangeShapes Go.WideShapes Go.ChangeAt Go.RowKit
section
variable {g:Int→Int} {dd:Sg} {s:Sta} {I:Ins}
set_option maxRecDepth 100000
theorem calm_at{k:Int}(h:I.op=k)(h1:(!soleB k&&!isWide k&&k != 22&&k != 44&&k != 45)=true):Calm s I:=by
 simp only[Bool.and_eq_true,Bool.not_eq_true',bne_iff_ne,ne_eq]at h1
 obtain⟨⟨⟨⟨h1,h2⟩,h3⟩,h4⟩,h5⟩:=h1
 exact⟨by rw[h];exact h1,by rw[h];exact h2,by rw[h];exact h3,by unfold dirB;rw[h,if_neg h4,if_neg h5]⟩
theorem xA_ok:0≤xA g dd s I∧xA g dd s I<4294967296:=ldA_lo g dd s I
theorem yA_ok:0≤yA g dd s I∧yA g dd s I<4294967296:=ldB_lo g dd s I
theorem agree_sum(hI:AluD I)(h:I.op=1∨I.op=3∨I.op=6∨I.op=4∨I.op=8):AgreeM g dd s I (sumZ g dd s (pinI s I)):=by
 obtain⟨hn,hp,hb⟩:=frm_two hI (by omega)
 unfold sumZ
 refine agree_two hI (by rcases h with h|h|h|h|h<;>rw[h]<;>rfl) (by rcases h with h|h|h|h|h<;>rw[h]<;>rfl) hb _ fun ho=>?_
 show AgreeM g dd s I (if I.op=1 then _ else if I.op=3 then _ else if I.op=6 then _ else if I.op=4 then _ else _)
 rcases h with h|h|h|h|h
 ·rw[if_pos h]
  unfold addZ
  refine agree_keep (calm_at h rfl) ho (addQ s (xA g dd s I) (yA g dd s I) I.size false true) (by simp[calcF,h]) rfl rfl (d:=false) ?_ (addV_cut _ _ _ _)
  show fl s _ _ _ _ _ _=fl s (addC (cut _ I.size) (cut _ I.size) I.size false) (par (addV (cut _ I.size) (cut _ I.size) I.size false)) (zer (addV (cut _ I.size) (cut _ I.size) I.size false)) (hi (addV (cut _ I.size) (cut _ I.size) I.size false) I.size) (addO (cut _ I.size) (cut _ I.size) I.size false) _
  rw[addC_cut,addV_cut,addO_cut]
 ·rw[if_neg (by omega),if_pos h]
  unfold addZ
  refine agree_keep (calm_at h rfl) ho (addQ s (xA g dd s I) (yA g dd s I) I.size s.c true) (by simp[calcF,h]) rfl rfl (d:=false) ?_ (addV_cut _ _ _ _)
  show fl s _ _ _ _ _ _=fl s (addC (cut _ I.size) (cut _ I.size) I.size s.c) (par (addV (cut _ I.size) (cut _ I.size) I.size s.c)) (zer (addV (cut _ I.size) (cut _ I.size) I.size s.c)) (hi (addV (cut _ I.size) (cut _ I.size) I.size s.c) I.size) (addO (cut _ I.size) (cut _ I.size) I.size s.c) _
  rw[addC_cut,addV_cut,addO_cut]
 ·rw[if_neg (by omega),if_neg (by omega),if_pos h]
  unfold subZ
  refine agree_keep (calm_at h rfl) ho (subQ s (xA g dd s I) (yA g dd s I) I.size false true) (by simp[calcF,h]) rfl rfl (d:=false) ?_ (subV_cut _ _ _ _)
  show fl s _ _ _ _ _ _=fl s (subC (cut _ I.size) (cut _ I.size) I.size false) (par (subV (cut _ I.size) (cut _ I.size) I.size false)) (zer (subV (cut _ I.size) (cut _ I.size) I.size false)) (hi (subV (cut _ I.size) (cut _ I.size) I.size false) I.size) (subO (cut _ I.size) (cut _ I.size) I.size false) _
  rw[subC_cut,subV_cut,subO_cut]
 ·rw[if_neg (by omega),if_neg (by omega),if_neg (by omega),if_pos h]
  unfold subZ
  refine agree_keep (calm_at h rfl) ho (subQ s (xA g dd s I) (yA g dd s I) I.size s.c true) (by simp[calcF,h]) rfl rfl (d:=false) ?_ (subV_cut _ _ _ _)
  show fl s _ _ _ _ _ _=fl s (subC (cut _ I.size) (cut _ I.size) I.size s.c) (par (subV (cut _ I.size) (cut _ I.size) I.size s.c)) (zer (subV (cut _ I.size) (cut _ I.size) I.size s.c)) (hi (subV (cut _ I.size) (cut _ I.size) I.size s.c) I.size) (subO (cut _ I.size) (cut _ I.size) I.size s.c) _
  rw[subC_cut,subV_cut,subO_cut]
 ·rw[if_neg (by omega),if_neg (by omega),if_neg (by omega),if_neg (by omega)]
  unfold cmpZ
  refine agree_flat (calm_at h rfl) ho (subQ s (xA g dd s I) (yA g dd s I) I.size false false) (by simp[calcF,h]) rfl ?_
  show tellT s (subC (cut _ I.size) (cut _ I.size) I.size false) (par (subV (cut _ I.size) (cut _ I.size) I.size false)) (zer (subV (cut _ I.size) (cut _ I.size) I.size false)) (hi (subV (cut _ I.size) (cut _ I.size) I.size false) I.size) (subO (cut _ I.size) (cut _ I.size) I.size false)=_
  rw[subC_cut,subV_cut,subO_cut]
  rfl
theorem agree_logic(hI:AluD I)(h:I.op=5∨I.op=2∨I.op=7∨I.op=9):AgreeM g dd s I (logicZ g dd s (pinI s I)):=by
 obtain⟨hn,hp,hb⟩:=frm_two hI (by omega)
 have hx:=xA_ok (g:=g) (dd:=dd) (s:=s) (I:=I)
 have hy:=yA_ok (g:=g) (dd:=dd) (s:=s) (I:=I)
 unfold logicZ
 refine agree_two hI (by rcases h with h|h|h|h<;>rw[h]<;>rfl) (by rcases h with h|h|h|h<;>rw[h]<;>rfl) hb _ fun ho=>?_
 have hL:cut (logV I.op (cut (xA g dd s I) I.size) (cut (yA g dd s I) I.size)) I.size=cut (logV I.op (xA g dd s I) (yA g dd s I)) I.size:=by
  unfold logV
  split
  ·exact cut_or _ _ hx.1 hx.2 hy.1 hy.2
  ·split
   ·exact cut_xor _ _ hx.1 hx.2 hy.1 hy.2
   ·exact cut_and _ _ hx.1 hx.2 hy.1 hy.2
 show AgreeM g dd s I (if I.op=9 then⟨0,tellT s false (par (cut (logV I.op (cut (xA g dd s I) I.size) (cut (yA g dd s I) I.size)) I.size)) (zer (cut (logV I.op (cut (xA g dd s I) I.size) (cut (yA g dd s I) I.size)) I.size)) (hi (cut (logV I.op (cut (xA g dd s I) I.size) (cut (yA g dd s I) I.size)) I.size) I.size) false,g⟩
  else keepZ g dd s (pinI s I) (cut (logV I.op (cut (xA g dd s I) I.size) (cut (yA g dd s I) I.size)) I.size) false (par (cut (logV I.op (cut (xA g dd s I) I.size) (cut (yA g dd s I) I.size)) I.size)) (zer (cut (logV I.op (cut (xA g dd s I) I.size) (cut (yA g dd s I) I.size)) I.size)) (hi (cut (logV I.op (cut (xA g dd s I) I.size) (cut (yA g dd s I) I.size)) I.size) I.size) false)
 rw[hL]
 rcases h with h|h|h|h
 ·rw[if_neg (by omega)]
  exact agree_keep (calm_at h rfl) ho (logQ s (logV I.op (xA g dd s I) (yA g dd s I)) I.size true) (by simp[calcF,h,logV]) rfl rfl (d:=false) rfl rfl
 ·rw[if_neg (by omega)]
  exact agree_keep (calm_at h rfl) ho (logQ s (logV I.op (xA g dd s I) (yA g dd s I)) I.size true) (by simp[calcF,h,logV]) rfl rfl (d:=false) rfl rfl
 ·rw[if_neg (by omega)]
  exact agree_keep (calm_at h rfl) ho (logQ s (logV I.op (xA g dd s I) (yA g dd s I)) I.size true) (by simp[calcF,h,logV]) rfl rfl (d:=false) rfl rfl
 ·rw[if_pos h]
  exact agree_flat (calm_at h rfl) ho (logQ s (logV I.op (xA g dd s I) (yA g dd s I)) I.size false) (by simp[calcF,h,logV]) rfl rfl
theorem agree_step(hI:AluD I)(i:Int)(h:(I.op=16∧i=1)∨(I.op=17∧i=-1)):AgreeM g dd s I (stepZ g dd s (pinI s I) i):=by
 obtain⟨hn,hp,hb⟩:=alu_one15 hI (by omega)
 unfold stepZ
 refine agree_one hI (by rcases h with⟨h,_⟩|⟨h,_⟩<;>rw[h]<;>rfl) (by rcases h with⟨h,_⟩|⟨h,_⟩<;>rw[h]<;>rfl) hb _ fun ho=>?_
 have hc:Calm s I:=by rcases h with⟨h,_⟩|⟨h,_⟩<;>exact calm_at h rfl
 refine agree_keep hc ho (stepQ s (xA g dd s I) I.size i) (by rcases h with⟨h,rfl⟩|⟨h,rfl⟩<;>simp[calcF,h]) rfl rfl (d:=s.d) ?_ (stepV_cut _ _)
 show fl s _ _ _ _ _ _=fl s s.c (par (stepV (cut _ I.size) I.size i)) (zer (stepV (cut _ I.size) I.size i)) (hi (stepV (cut _ I.size) I.size i) I.size) (stepO (cut _ I.size) I.size i) _
 rw[stepV_cut,stepO_cut]
theorem agree_shift(hI:AluD I)(h:I.op=26∨I.op=27∨I.op=28∨I.op=29∨I.op=30):AgreeM g dd s I (shiftZ g dd s (pinI s I)):=by
 obtain⟨hn,hp,hb⟩:=frm_two hI (by omega)
 have h4:=frm_sh hI (by omega)
 have hx:=xA_ok (g:=g) (dd:=dd) (s:=s) (I:=I)
 have hy:=yA_ok (g:=g) (dd:=dd) (s:=s) (I:=I)
 unfold shiftZ
 refine agree_two hI (by rcases h with h|h|h|h|h<;>rw[h]<;>rfl) (by rcases h with h|h|h|h|h<;>rw[h]<;>rfl) hb _ fun ho=>?_
 have ex:cut (xA g dd s I) I.size=xA g dd s I:=by rw[h4];exact cut_of_four _ hx.1 hx.2
 have ey:cut (yA g dd s I) I.size=yA g dd s I:=by rw[h4];exact cut_of_four _ hy.1 hy.2
 rw[ex,ey]
 have hc:Calm s I:=by rcases h with h|h|h|h|h<;>exact calm_at h rfl
 exact agree_keep hc ho (shiftQ s I.op (xA g dd s I) (yA g dd s I) I.size) (by rcases h with h|h|h|h|h<;>simp[calcF,h]) rfl rfl (d:=s.d) rfl rfl
theorem agree_prod(hI:AluD I)(h:I.op=12∨I.op=13):AgreeM g dd s I (prodZ g dd s (pinI s I)):=by
 obtain⟨hn,hp,hb⟩:=alu_one15 hI (by omega)
 have h4:=frm_div hI (by omega)
 have hx:=xA_ok (g:=g) (dd:=dd) (s:=s) (I:=I)
 have hs:soleB I.op=false:=by rcases h with h|h<;>rw[h]<;>rfl
 unfold prodZ
 refine agree_one hI hs (by rcases h with h|h<;>rw[h]<;>rfl) hb _ fun ho=>?_
 have ex:cut (xA g dd s I) I.size=xA g dd s I:=by rw[h4];exact cut_of_four _ hx.1 hx.2
 rw[ex]
 have hw:isWide I.op=true:=by rcases h with h|h<;>rw[h]<;>rfl
 have hk:wideO s I.op (xA g dd s I)=true:=by unfold wideO;rw[if_pos h]
 have hd:dirB s I.op=s.d:=by rcases h with h|h<;>rw[h]<;>rfl
 have h2:∀(a b:Int),putN (putN s.r 2 a) 0 b=putN (putN s.r 0 b) 2 a:=fun a b=>by
  funext k
  unfold putN
  by_cases h0:k=0
  ·subst h0;rfl
  ·by_cases h2:k=2
   ·subst h2;rfl
   ·simp[h0,h2]
 have hE:doneE dd s I (xA g dd s I) (yA g dd s I)=0:=by unfold doneE;rw[if_pos hw,if_pos hk]
 have hG:doneG g dd s I (xA g dd s I) (yA g dd s I)=g:=by unfold doneG;rw[if_pos hw]
 have hT:doneT dd s I (xA g dd s I) (yA g dd s I)=wideT s I.op (xA g dd s I):=by unfold doneT;rw[if_pos hw,if_pos hk]
 show AgreeM g dd s I (if I.op=13 then _ else _)
 rcases h with h|h
 ·rw[if_neg (by omega)]
  refine agree_done hs ho hE.symm hG.symm fun _=>?_
  rw[hT,hd]
  show({ s with r:=putN (putN s.r 2 _) 0 _,c:=_,o:=_ }:Sta)=_
  rw[h2]
  unfold wideT wideLo wideHi wideC
  simp only[h]
  rfl
 ·rw[if_pos h]
  refine agree_done hs ho hE.symm hG.symm fun _=>?_
  rw[hT,hd]
  show({ s with r:=putN (putN s.r 2 _) 0 _,c:=_,o:=_ }:Sta)=_
  rw[h2]
  unfold wideT wideLo wideHi wideC
  simp only[h]
  rfl
theorem agree_quot(hI:AluD I)(h:I.op=14∨I.op=15):AgreeM g dd s I (quotZ g dd s (pinI s I)):=by
 obtain⟨hn,hp,hb⟩:=alu_one15 hI (by omega)
 have h4:=frm_div hI (by omega)
 have hx:=xA_ok (g:=g) (dd:=dd) (s:=s) (I:=I)
 have hs:soleB I.op=false:=by rcases h with h|h<;>rw[h]<;>rfl
 unfold quotZ
 refine agree_one hI hs (by rcases h with h|h<;>rw[h]<;>rfl) hb _ fun ho=>?_
 have ex:cut (xA g dd s I) I.size=xA g dd s I:=by rw[h4];exact cut_of_four _ hx.1 hx.2
 rw[ex]
 have hw:isWide I.op=true:=by rcases h with h|h<;>rw[h]<;>rfl
 have hd:dirB s I.op=s.d:=by rcases h with h|h<;>rw[h]<;>rfl
 have hG:doneG g dd s I (xA g dd s I) (yA g dd s I)=g:=by unfold doneG;rw[if_pos hw]
 have hE:doneE dd s I (xA g dd s I) (yA g dd s I)=if wideO s I.op (xA g dd s I)then 0 else 3:=by unfold doneE;rw[if_pos hw]
 have hT:doneT dd s I (xA g dd s I) (yA g dd s I)=if wideO s I.op (xA g dd s I)then wideT s I.op (xA g dd s I)else s:=by unfold doneT;rw[if_pos hw]
 show AgreeM g dd s I (if I.op=15 then(if idOk (s.r 2) (s.r 0) (xA g dd s I)then _ else _)else(if divOk (s.r 2) (xA g dd s I)then _ else _))
 rcases h with h|h
 ·rw[if_neg (by omega)]
  have hk:wideO s I.op (xA g dd s I)=divOk (s.r 2) (xA g dd s I):=by unfold wideO;rw[h];rfl
  rw[hk]at hE hT
  by_cases hd2:divOk (s.r 2) (xA g dd s I)=true
  ·rw[if_pos hd2]at hE hT ⊢
   refine agree_done hs ho hE.symm hG.symm fun _=>?_
   rw[hT,hd]
   unfold wideT wideLo wideHi wideC
   simp only[h]
   rfl
  ·rw[if_neg hd2]at hE hT ⊢
   exact agree_done hs ho hE.symm hG.symm fun z=>absurd z (show ¬(3:Int)=0 by decide)
 ·rw[if_pos h]
  have hk:wideO s I.op (xA g dd s I)=idOk (s.r 2) (s.r 0) (xA g dd s I):=by unfold wideO;rw[h];rfl
  rw[hk]at hE hT
  by_cases hd2:idOk (s.r 2) (s.r 0) (xA g dd s I)=true
  ·rw[if_pos hd2]at hE hT ⊢
   refine agree_done hs ho hE.symm hG.symm fun _=>?_
   rw[hT,hd]
   unfold wideT wideLo wideHi wideC
   simp only[h]
   rfl
  ·rw[if_neg hd2]at hE hT ⊢
   exact agree_done hs ho hE.symm hG.symm fun z=>absurd z (show ¬(3:Int)=0 by decide)
theorem agree_times(hI:AluD I)(h:I.op=25):AgreeM g dd s I (timesZ g dd s (pinI s I)):=by
 obtain⟨ha,hb,h4⟩:=frm_wide hI (by omega)
 have h4:=h4 (by omega)
 have hs:soleB I.op=false:=by rw[h];rfl
 have hon:onlyB I.op=true:=by rw[h];rfl
 have hy:=yA_ok (g:=g) (dd:=dd) (s:=s) (I:=I)
 have ey:cut (yA g dd s I) I.size=yA g dd s I:=by rw[h4];exact cut_of_four _ hy.1 hy.2
 unfold timesZ
 show AgreeM g dd s I (if I.cond=1 then _ else _)
 by_cases hcd:I.cond=1
 ·rw[if_pos hcd]
  refine agree_sec hI hs hon hb _ fun ho=>?_
  rw[ey]
  exact agree_keep (calm_at h rfl) ho (timesQ s (yA g dd s I) I.c I.size) (by simp[calcF,h,hcd]) rfl rfl (d:=s.d) rfl rfl
 ·rw[if_neg hcd]
  have hka:I.a.kind≠3:=by
   obtain⟨r,_,_,e⟩:=ha
   rw[e]
   unfold smallO
   rw[if_neg (by decide)]
   show(1:Int)≠3
   decide
  have hl:aldE dd s (pinF s I.a) I.size=0:=by
   rw[pin_ldE]
   unfold aldE
   rw[if_neg hka]
  have hv:lodV g dd s (pinF s I.a) I.size=getF s I.a%4294967296:=by
   unfold lodV
   rw[pin_ldV,aldV_eq hI.opdIn.1,h4]
   unfold ldA
   rw[if_neg hka]
   rfl
  show AgreeM g dd s I (if aldE dd s (pinF s I.a) I.size=0 then secZ g dd s (pinI s I) (fun y=>mulZ g dd s (pinI s I) (lodV g dd s (pinF s I.a) I.size) y)else _)
  rw[if_pos hl,hv]
  refine agree_sec hI hs hon hb _ fun ho=>?_
  rw[ey]
  exact agree_keep (calm_at h rfl) ho (timesQ s (getF s I.a%4294967296) (yA g dd s I) I.size) (by simp[calcF,h,hcd]) rfl rfl (d:=s.d) rfl rfl
theorem agree_neg(hI:AluD I)(h:I.op=11):AgreeM g dd s I (oneZ g dd s (pinI s I) fun x=>subZ g dd s (pinI s I) 0 x false):=by
 obtain⟨hn,hp,hb⟩:=alu_one15 hI (by omega)
 refine agree_one hI (by rw[h];rfl) (by rw[h];rfl) hb _ fun ho=>?_
 unfold subZ
 have h0:cut 0 I.size=0:=by unfold cut;simp
 have eV:subV 0 (cut (xA g dd s I) I.size) I.size false=subV 0 (xA g dd s I) I.size false:=by unfold subV;rw[cut_cut]
 have eC:subC 0 (cut (xA g dd s I) I.size) I.size false=subC 0 (xA g dd s I) I.size false:=by unfold subC;rw[cut_cut]
 have eO:subO 0 (cut (xA g dd s I) I.size) I.size false=subO 0 (xA g dd s I) I.size false:=by unfold subO;rw[cut_cut,eV]
 refine agree_keep (calm_at h rfl) ho (subQ s 0 (xA g dd s I) I.size false true) (by simp[calcF,h]) rfl rfl (d:=false) ?_ eV
 show fl s _ _ _ _ _ _=fl s (subC 0 (cut _ I.size) I.size false) (par (subV 0 (cut _ I.size) I.size false)) (zer (subV 0 (cut _ I.size) I.size false)) (hi (subV 0 (cut _ I.size) I.size false) I.size) (subO 0 (cut _ I.size) I.size false) _
 rw[eV,eC,eO]
theorem agree_not(hI:AluD I)(h:I.op=10):AgreeM g dd s I (oneZ g dd s (pinI s I) fun x=>putZ g dd s (pinI s I).a (pinI s I).size (bits .xor .u32 4294967295 x)):=by
 obtain⟨hn,hp,hb⟩:=alu_one15 hI (by omega)
 have hx:=xA_ok (g:=g) (dd:=dd) (s:=s) (I:=I)
 refine agree_one hI (by rw[h];rfl) (by rw[h];rfl) hb _ fun ho=>?_
 exact agree_put (calm_at h rfl) ho ⟨s,bits .xor .u32 4294967295 (xA g dd s I),I.size,true⟩ (by simp[calcF,h]) rfl rfl rfl (put_cut15 hn hp (cut_xor1 _ _ (by decide) (by decide) hx.1 hx.2))
theorem agree_mark(h:I.op=41∨I.op=42∨I.op=43∨I.op=44∨I.op=45):AgreeM g dd s I (markZ g s I.op):=by
 have hs:soleB I.op=true:=by rcases h with h|h|h|h|h<;>rw[h]<;>rfl
 unfold markZ
 rcases h with h|h|h|h|h
 ·rw[if_pos h]
  refine agree_sole hs rfl rfl ?_
  unfold soleT dirB
  simp only[h]
  rfl
 ·rw[if_neg (by omega),if_pos h]
  refine agree_sole hs rfl rfl ?_
  unfold soleT dirB
  simp only[h]
  rfl
 ·rw[if_neg (by omega),if_neg (by omega),if_pos h]
  refine agree_sole hs rfl rfl ?_
  unfold soleT dirB
  simp only[h]
  rfl
 ·rw[if_neg (by omega),if_neg (by omega),if_neg (by omega),if_pos h]
  refine agree_sole hs rfl rfl ?_
  unfold soleT dirB
  simp only[h]
  rfl
 ·rw[if_neg (by omega),if_neg (by omega),if_neg (by omega),if_neg (by omega)]
  refine agree_sole hs rfl rfl ?_
  unfold soleT dirB
  simp only[h]
  rfl
theorem agree_xchg(hI:AluD I)(h:I.op=22):AgreeM g dd s I (xchgZ g dd s (pinI s I)):=by
 obtain⟨hn,hp,hb⟩:=frm_two hI (by omega)
 have hs:soleB I.op=false:=by rw[h];rfl
 have hd:dirB s I.op=s.d:=by rw[h];rfl
 have hw:¬isWide I.op=true:=by rw[h];decide
 have hB:=frm_x hI h
 have hkb:I.b.kind≠3:=by
  obtain⟨r,_,_,e⟩:=hB
  rw[e]
  unfold smallO
  split
  ·show(2:Int)≠3;decide
  ·show(1:Int)≠3;decide
 unfold xchgZ
 refine agree_two hI hs (by rw[h];rfl) hb _ fun ho=>?_
 show AgreeM g dd s I (if astE dd s (pinF s I.a) I.size=0 then putZ (astG g dd s (pinF s I.a) I.size (cut (yA g dd s I) I.size)) dd (astS s (pinF s I.a) (cut (yA g dd s I) I.size)) (pinF s I.b) I.size (cut (xA g dd s I) I.size)else⟨2,s,g⟩)
 obtain⟨p1,p2⟩:=put_cut15 (g:=g) (dd:=dd) (s:=s) (t:=s) (v:=cut (yA g dd s I) I.size) (v':=yA g dd s I) hn hp (cut_cut _ _)
 rw[pin_stE,pin_stG,pin_stS,p1,p2]
 have hob:putO dd s I.b I.size=true:=by unfold putO;rw[if_neg hkb]
 have hE:doneE dd s I (xA g dd s I) (yA g dd s I)=if(putO dd s I.a I.size&&putO dd s I.b I.size)=true then 0 else 2:=by unfold doneE;rw[if_neg hw,if_pos h]
 have hT:doneT dd s I (xA g dd s I) (yA g dd s I)=if(putO dd s I.a I.size&&putO dd s I.b I.size)=true then putS (putS s I.a (yA g dd s I)) I.b (xA g dd s I)else s:=by unfold doneT;rw[if_neg hw,if_pos h]
 have hG:doneG g dd s I (xA g dd s I) (yA g dd s I)=if(putO dd s I.a I.size&&putO dd s I.b I.size)=true then putG (putG g dd s I.a I.size (yA g dd s I)) dd s I.b I.size (xA g dd s I)else g:=by unfold doneG;rw[if_neg hw,if_pos h]
 rw[hob,Bool.and_true]at hE hT hG
 by_cases hpo:putO dd s I.a I.size=true
 ·rw[if_pos hpo]at hE hT hG
  rw[if_pos (st_iff.2 hpo)]
  obtain⟨q1,q2⟩:=put_cut15 (g:=putG g dd s I.a I.size (yA g dd s I)) (dd:=dd) (s:=s) (t:=putS s I.a (yA g dd s I)) (o:=I.b) (v:=cut (xA g dd s I) I.size) (v':=xA g dd s I) hn (.inl hB) (cut_cut _ _)
  unfold putZ
  rw[pin_stE,pin_stG,pin_stS,q1,q2,if_pos (st_iff.2 hob)]
  refine agree_done hs ho hE.symm hG.symm fun _=>?_
  rw[hT,hd,←put_d (s:=s) (o:=I.a) (yA g dd s I),←put_d (s:=putS s I.a (yA g dd s I)) (o:=I.b) (xA g dd s I)]
 ·rw[if_neg hpo]at hE hT hG
  rw[if_neg (fun e=>hpo (st_iff.1 e))]
  exact agree_done hs ho hE.symm hG.symm fun z=>absurd z (show ¬(2:Int)=0 by decide)
theorem agree_move(hI:AluD I)(h:I.op=18∨I.op=19∨I.op=20∨I.op=21∨I.op=22∨I.op=35∨I.op=36∨I.op=37∨I.op=38∨I.op=50):AgreeM g dd s I (moveZ g dd s (pinI s I)):=by
 have hy:=yA_ok (g:=g) (dd:=dd) (s:=s) (I:=I)
 unfold moveZ
 show AgreeM g dd s I (if I.op=18 then secZ g dd s (pinI s I) (fun y=>putZ g dd s (pinF s I.a) I.size y)
  else if I.op=19 then secZ g dd s (pinI s I) (fun y=>putZ g dd s (pinF s I.a) 4 y)
  else if I.op=20 then secZ g dd s (pinI s I) (fun y=>putZ g dd s (pinF s I.a) 4 (sgn y I.size%4294967296))
  else if I.op=21 then putZ g dd s (pinF s I.a) I.size (ofF s (pinF s I.b))
  else if I.op=22 then xchgZ g dd s (pinI s I)
  else if I.op=35 then putZ g dd s (pinF s I.a) I.size (heldF s I.cond)
  else if I.op=36 then secZ g dd s (pinI s I) (fun y=>if condH I.cond s.c s.p s.z s.s s.o then putZ g dd s (pinF s I.a) I.size y else⟨0,s,g⟩)
  else if I.op=37 then⟨0,{ s with r:=putN s.r 0 (sgn (s.r 0) 2%4294967296) },g⟩
  else if I.op=38 then⟨0,{ s with r:=putN s.r 2 (cdqV (s.r 0)) },g⟩
  else⟨0,s,g⟩)
 rcases h with h|h|h|h|h|h|h|h|h|h
 ·rw[if_pos h]
  obtain⟨hn,hp,hb⟩:=frm_two hI (by omega)
  refine agree_sec hI (by rw[h];rfl) (by rw[h];rfl) hb _ fun ho=>?_
  exact agree_put (calm_at h rfl) ho ⟨s,yA g dd s I,I.size,true⟩ (by simp[calcF,h]) rfl rfl rfl (put_cut15 hn hp (cut_cut _ _))
 ·rw[if_neg (by omega),if_pos h]
  obtain⟨ha,hb,_⟩:=frm_wide hI (by omega)
  refine agree_sec hI (by rw[h];rfl) (by rw[h];rfl) hb _ fun ho=>?_
  exact agree_put (calm_at h rfl) ho ⟨s,cut (yA g dd s I) I.size,4,true⟩ (by simp[calcF,h]) rfl rfl rfl ⟨rfl,rfl⟩
 ·rw[if_neg (by omega),if_neg (by omega),if_pos h]
  obtain⟨ha,hb,_⟩:=frm_wide hI (by omega)
  refine agree_sec hI (by rw[h];rfl) (by rw[h];rfl) hb _ fun ho=>?_
  exact agree_put (calm_at h rfl) ho ⟨s,sgn (yA g dd s I) I.size%4294967296,4,true⟩ (by simp[calcF,h]) rfl rfl rfl (by rw[sgn_cut];exact⟨rfl,rfl⟩)
 ·rw[if_neg (by omega),if_neg (by omega),if_neg (by omega),if_pos h]
  obtain⟨ha,hb,_⟩:=frm_wide hI (by omega)
  have hka:I.a.kind≠3:=by
   obtain⟨r,_,_,e⟩:=ha
   rw[e]
   unfold smallO
   rw[if_neg (by decide)]
   show(1:Int)≠3
   decide
  have hE:astE dd s I.a I.size=0:=by unfold astE;rw[if_neg hka]
  have hO:ofF s (pinF s I.b)=ofF s I.b:=by
   by_cases hk:I.b.kind=3
   ·exact of_pin hk
   ·rw[pin_not hk]
  unfold putZ
  rw[pin_stE,pin_stG,pin_stS,if_pos hE,hO]
  have hG:∀v,putG g dd s I.a I.size v=g:=fun v=>by unfold putG;rw[if_neg hka]
  rw[hG]
  refine agree_sole (by rw[h];rfl) rfl rfl ?_
  have hS:soleT s I=setF s I.a (ofF s I.b):=by unfold soleT;simp only[h];rfl
  have hP:putS s I.a (ofF s I.b)=setF s I.a (ofF s I.b):=by unfold putS;rw[if_neg hka]
  have hd:dirB s I.op=s.d:=by rw[h];rfl
  rw[hS,hd,←hP,←put_d (s:=s) (o:=I.a) (ofF s I.b)]
 ·rw[if_neg (by omega),if_neg (by omega),if_neg (by omega),if_neg (by omega),if_pos h]
  exact agree_xchg hI h
 ·rw[if_neg (by omega),if_neg (by omega),if_neg (by omega),if_neg (by omega),if_neg (by omega),if_pos h]
  obtain⟨hn,hp,hb⟩:=alu_one15 hI (by omega)
  have ho:okA dd s I=true:=by
   unfold okA
   rw[h,hb]
   rfl
  exact agree_put (calm_at h rfl) ho ⟨s,heldF s I.cond,I.size,true⟩ (by simp[calcF,h,heldF]) rfl rfl rfl ⟨rfl,rfl⟩
 ·rw[if_neg (by omega),if_neg (by omega),if_neg (by omega),if_neg (by omega),if_neg (by omega),if_neg (by omega),if_pos h]
  obtain⟨ha,hb,h4⟩:=frm_wide hI (by omega)
  have h4:=h4 (by omega)
  have ey:cut (yA g dd s I) I.size=yA g dd s I:=by rw[h4];exact cut_of_four _ hy.1 hy.2
  refine agree_sec hI (by rw[h];rfl) (by rw[h];rfl) hb _ fun ho=>?_
  show AgreeM g dd s I (if condH I.cond s.c s.p s.z s.s s.o=true then putZ g dd s (pinF s I.a) I.size (cut (yA g dd s I) I.size)else⟨0,s,g⟩)
  rw[ey]
  have hq:calcF s I (xA g dd s I) (yA g dd s I)=⟨s,yA g dd s I,I.size,condH I.cond s.c s.p s.z s.s s.o⟩:=by simp[calcF,h]
  by_cases hc:condH I.cond s.c s.p s.z s.s s.o=true
  ·rw[if_pos hc]
   exact agree_put (calm_at h rfl) ho _ hq hc rfl rfl ⟨rfl,rfl⟩
  ·rw[if_neg hc]
   exact agree_flat (calm_at h rfl) ho _ hq (by simpa using hc) rfl
 ·rw[if_neg (by omega),if_neg (by omega),if_neg (by omega),if_neg (by omega),if_neg (by omega),if_neg (by omega),if_neg (by omega),if_pos h]
  refine agree_sole (by rw[h];rfl) rfl rfl ?_
  unfold soleT dirB
  simp only[h]
  rfl
 ·rw[if_neg (by omega),if_neg (by omega),if_neg (by omega),if_neg (by omega),if_neg (by omega),if_neg (by omega),if_neg (by omega),if_neg (by omega),if_pos h]
  refine agree_sole (by rw[h];rfl) rfl rfl ?_
  unfold soleT dirB
  simp only[h]
  rfl
 ·rw[if_neg (by omega),if_neg (by omega),if_neg (by omega),if_neg (by omega),if_neg (by omega),if_neg (by omega),if_neg (by omega),if_neg (by omega),if_neg (by omega)]
  refine agree_sole (by rw[h];rfl) rfl rfl ?_
  unfold soleT dirB
  simp only[h]
  rfl
theorem land_agree(hI:AluD I)(hop:isAluB I.op=true):AgreeM g dd s I (reckZ g dd s (pinI s I)):=by
 unfold isAluB at hop
 simp only[Bool.and_eq_true,Bool.or_eq_true,Bool.not_eq_true',Bool.or_eq_false_iff,beq_iff_eq,beq_eq_false_iff_ne,decide_eq_true_eq]at hop
 unfold reckZ
 show AgreeM g dd s I (if I.op=1∨I.op=3∨I.op=6∨I.op=4∨I.op=8 then _ else if I.op=5∨I.op=2∨I.op=7∨I.op=9 then _ else if I.op=10 then _ else if I.op=11 then _ else if I.op=16 then _ else if I.op=17 then _ else if I.op=12∨I.op=13 then _ else if I.op=14∨I.op=15 then _ else if I.op=25 then _ else if I.op=26∨I.op=27∨I.op=28∨I.op=29∨I.op=30 then _ else if I.op=41∨I.op=42∨I.op=43∨I.op=44∨I.op=45 then markZ g s I.op else _)
 by_cases c1:I.op=1∨I.op=3∨I.op=6∨I.op=4∨I.op=8
 ·rw[if_pos c1];exact agree_sum hI c1
 rw[if_neg c1]
 by_cases c2:I.op=5∨I.op=2∨I.op=7∨I.op=9
 ·rw[if_pos c2];exact agree_logic hI c2
 rw[if_neg c2]
 by_cases c3:I.op=10
 ·rw[if_pos c3];exact agree_not hI c3
 rw[if_neg c3]
 by_cases c4:I.op=11
 ·rw[if_pos c4];exact agree_neg hI c4
 rw[if_neg c4]
 by_cases c5:I.op=16
 ·rw[if_pos c5];exact agree_step hI 1 (.inl ⟨c5,rfl⟩)
 rw[if_neg c5]
 by_cases c6:I.op=17
 ·rw[if_pos c6];exact agree_step hI (-1) (.inr ⟨c6,rfl⟩)
 rw[if_neg c6]
 by_cases c7:I.op=12∨I.op=13
 ·rw[if_pos c7];exact agree_prod hI c7
 rw[if_neg c7]
 by_cases c8:I.op=14∨I.op=15
 ·rw[if_pos c8];exact agree_quot hI c8
 rw[if_neg c8]
 by_cases c9:I.op=25
 ·rw[if_pos c9];exact agree_times hI c9
 rw[if_neg c9]
 by_cases c10:I.op=26∨I.op=27∨I.op=28∨I.op=29∨I.op=30
 ·rw[if_pos c10];exact agree_shift hI c10
 rw[if_neg c10]
 by_cases c11:I.op=41∨I.op=42∨I.op=43∨I.op=44∨I.op=45
 ·rw[if_pos c11];exact agree_mark c11
 rw[if_neg c11]
 exact agree_move hI (by omega)
end
end
section
open Go.ChangeShapes Go.WideShapes Go.ChangeAt Go.RowKit
set_option maxRecDepth 100000
theorem pin_twice(s:Sta)(o:Opd):pinF s (pinF s o)=pinF s o:=by
 by_cases h:o.kind=3
 ·have h2:(pinF s o).kind=3:=pin_kind.trans h
  have e:pinF s o=⟨3,0,-1,-1,0,ofF s o⟩:=if_pos h
  have e2:pinF s (pinF s o)=⟨3,0,-1,-1,0,ofF s (pinF s o)⟩:=if_pos h2
  rw[e2,of_pin h,e]
 ·rw[pin_not h,pin_not h]
structure PinC (w:World) (s:Sta) (I:Ins) (A1 B1:Opd) (u:World):Prop where
 b4:u.heap[w.heap.size]?=some (.cells (staL s).toArray 29 (0,0))
 b5:∃X Y,(X=I.a∨X=A1)∧(Y=I.b∨Y=B1)∧u.heap[w.heap.size+1]?=some (.cells (insL { I with a:=X,b:=Y }).toArray 34 (0,0))
 b6:u.heap[w.heap.size+2]?=some (.cells staZA 29 (0,0))
 b7:u.heap[w.heap.size+3]?=some (.cells #[.int .i64 0] 3 (0,0))
 bel:Below w.heap.size w u
def PinG(B:Nat)(A1 B1:Opd)(u u':World):Prop:=(u.rangeAt B 3 (opL' A1)→u'.rangeAt B 3 (opL' A1))∧(u.rangeAt B 9 (opL' B1)→u'.rangeAt B 9 (opL' B1))
def PinV(B:Nat)(s:Sta)(I:Ins)(A1 B1:Opd):Nat→Value→World→Prop
 |0,v,_=>v=.agg (staL s).toArray
 |1,v,_=>v=.pointer (some ⟨B,3,none⟩)
 |2,v,_=>v=.agg (opL' I.a).toArray∨v=.agg (opL' A1).toArray
 |3,v,_=>v=.agg (opL' A1).toArray
 |4,v,_=>v=.agg (staL s).toArray
 |5,v,_=>v=.pointer (some ⟨B,9,none⟩)
 |6,v,_=>v=.agg (opL' I.b).toArray∨v=.agg (opL' B1).toArray
 |7,v,_=>v=.agg (opL' B1).toArray
 |8,v,_=>v=.pointer (some ⟨B,3,none⟩)
 |9,_,u=>u.rangeAt B 3 (opL' A1)
 |10,v,_=>v=.pointer (some ⟨B,9,none⟩)
 |11,_,u=>u.rangeAt B 9 (opL' B1)
 |_,_,_=>True
theorem pin_stays{B:Nat}{s:Sta}{I:Ins}{A1 B1:Opd}(i:Nat)(v:Value)(u u':World)(h:PinV B s I A1 B1 i v u)(hg:PinG B A1 B1 u u'):PinV B s I A1 B1 i v u':=by
 unfold PinV at h ⊢
 split at h
 all_goals first
  |exact h
  |exact hg.1 h
  |exact hg.2 h
section
variable {w:World} {s:Sta} {I:Ins} {A1 B1:Opd} {u u':World}
theorem pin_start(w:World)(s:Sta)(I:Ins)(A1 B1:Opd):PinC w s I A1 B1 ((((w.alloc (.cells (staL s).toArray 29)).alloc (.cells (insL I).toArray 34)).alloc (.cells staZA 29)).alloc (.cells #[.int .i64 0] 3)):=by
 have h0:∀(u:World) (o:Obj) (k:Nat),k=u.heap.size→(u.alloc o).heap[k]?=some o:=fun u o k e=>by subst e;show(u.heap.push _)[u.heap.size]?=_;simp
 have h1:∀(u:World) (o x:Obj) (k:Nat),u.heap[k]?=some x→(u.alloc o).heap[k]?=some x:=fun u o x k e=>by
  have hl:=(Array.getElem?_eq_some_iff.1 e).1
  show(u.heap.push _)[k]?=_
  rw[Array.getElem?_push,if_neg (by omega)]
  exact e
 exact⟨h1 _ _ _ _ (h1 _ _ _ _ (h1 _ _ _ _ (h0 _ _ _ rfl))),⟨I.a,I.b,.inl rfl,.inl rfl,h1 _ _ _ _ (h1 _ _ _ _ (h0 _ _ _ (by simp)))⟩,h1 _ _ _ _ (h0 _ _ _ (by simp)),h0 _ _ _ (by simp),below_last (below_last (below_last (below_last (Below.refl _ _) _) _) _) _⟩
theorem PinC.below(h:PinC w s I A1 B1 u)(hb:Below u.heap.size u u'):PinC w s I A1 B1 u':=by
 have k:∀{j:Nat} {x:Obj},u.heap[j]?=some x→u'.heap[j]?=some x:=fun{j x} hj=>(hb.block j (Array.getElem?_eq_some_iff.1 hj).1).trans hj
 obtain⟨X,Y,hX,hY,h5⟩:=h.b5
 exact⟨k h.b4,⟨X,Y,hX,hY,k h5⟩,k h.b6,k h.b7,below_step h.bel hb⟩
theorem PinG.below(hb:Below u.heap.size u u'):PinG (w.heap.size+1) A1 B1 u u':=⟨fun h=>range_below hb h,fun h=>range_below hb h⟩
theorem PinG.refl(B:Nat)(A1 B1:Opd)(u:World):PinG B A1 B1 u u:=⟨id,id⟩
theorem PinC.opa(h:PinC w s I A1 B1 u):u.rangeAt (w.heap.size+1) 3 (opL' I.a)∨u.rangeAt (w.heap.size+1) 3 (opL' A1):=by
 obtain⟨X,Y,hX,hY,h5⟩:=h.b5
 rcases hX with rfl|rfl
 ·exact .inl (range_in13 h5 3 _ rfl)
 ·exact .inr (range_in13 h5 3 _ rfl)
theorem PinC.opb(h:PinC w s I A1 B1 u):u.rangeAt (w.heap.size+1) 9 (opL' I.b)∨u.rangeAt (w.heap.size+1) 9 (opL' B1):=by
 obtain⟨X,Y,hX,hY,h5⟩:=h.b5
 rcases hY with rfl|rfl
 ·exact .inl (range_in13 h5 9 _ rfl)
 ·exact .inr (range_in13 h5 9 _ rfl)
theorem put_ia(I:Ins)(X Y q:Opd):setL (insL { I with a:=X,b:=Y }).toArray 3 (opL' q)=(insL { I with a:=q,b:=Y }).toArray:=by kernel_rfl
theorem put_ib(I:Ins)(X Y q:Opd):setL (insL { I with a:=X,b:=Y }).toArray 9 (opL' q)=(insL { I with a:=X,b:=q }).toArray:=by kernel_rfl
theorem PinC.put(h:PinC w s I A1 B1 u)(o:Nat)(q:Opd)(ho:o=3∧q=A1∨o=9∧q=B1):PinC w s I A1 B1 (u.setCells (w.heap.size+1) o (opL' q))∧(u.setCells (w.heap.size+1) o (opL' q)).rangeAt (w.heap.size+1) o (opL' q)∧PinG (w.heap.size+1) A1 B1 u (u.setCells (w.heap.size+1) o (opL' q)):=by
 obtain⟨X,Y,hX,hY,h5⟩:=h.b5
 have hb:But (·=w.heap.size+1) u (u.setCells (w.heap.size+1) o (opL' q)):=(But.refl (·=w.heap.size+1) u).cells (fun _=>rfl) _ _
 have k:∀{j:Nat} {x:Obj},j≠w.heap.size+1→u.heap[j]?=some x→(u.setCells (w.heap.size+1) o (opL' q)).heap[j]?=some x:=fun{j x} hn hj=>(hb.block j (Array.getElem?_eq_some_iff.1 hj).1 hn).trans hj
 have hy:=block_setCells (T:=34) (opL' q) o u _ h5
 have hbel:Below w.heap.size w (u.setCells (w.heap.size+1) o (opL' q)):=below_setCells (by omega) _ _ _ h.bel
 rcases ho with⟨rfl,rfl⟩|⟨rfl,rfl⟩
 ·rw[put_ia]at hy
  exact⟨⟨k (by omega) h.b4,⟨q,Y,.inr rfl,hY,hy⟩,k (by omega) h.b6,k (by omega) h.b7,hbel⟩,range_in13 hy 3 _ rfl,fun _=>range_in13 hy 3 _ rfl,fun h9=>World.rangeAt_setCells_apart h9 _ _ _ (.inr (.inr (by simp[opL'])))⟩
 ·rw[put_ib]at hy
  exact⟨⟨k (by omega) h.b4,⟨X,q,hX,.inr rfl,hy⟩,k (by omega) h.b6,k (by omega) h.b7,hbel⟩,range_in13 hy 9 _ rfl,fun h3=>World.rangeAt_setCells_apart h3 _ _ _ (.inr (.inl (by simp[opL']))),fun _=>range_in13 hy 9 _ rfl⟩
theorem pin_disp{o:Opd}(h:0≤o.disp∧o.disp<4294967296):0≤(pinF s o).disp∧(pinF s o).disp<4294967296:=by
 unfold pinF
 split
 ·exact⟨ofF_lo s o,ofF_hi s o⟩
 ·exact h
theorem opL_inj{o p:Opd}(h:opL' o=opL' p):o=p:=by
 obtain⟨a,b,c,d,e,f⟩:=o
 obtain⟨a',b',c',d',e',f'⟩:=p
 simp only[opL',List.cons.injEq,Value.int.injEq,true_and,and_true]at h
 obtain⟨rfl,rfl,rfl,rfl,rfl,rfl⟩:=h
 rfl
theorem range_same{B o:Nat}{cs ds:List Value}(h1:u.rangeAt B o cs)(h2:u.rangeAt B o ds)(hl:cs.length=ds.length):cs=ds:=by
 apply List.ext_getElem? 
 intro k
 by_cases hk:k<cs.length
 ·have a1:=h1 k cs[k] (List.getElem?_eq_getElem hk)
  have a2:=h2 k (ds[k]'(by omega)) (List.getElem?_eq_getElem (by omega))
  rw[List.getElem?_eq_getElem hk,List.getElem?_eq_getElem (by omega)]
  exact a1.symm.trans a2
 ·rw[List.getElem?_eq_none (by omega),List.getElem?_eq_none (by omega)]
theorem PinC.whole(h:PinC w s I A1 B1 u)(hA:u.rangeAt (w.heap.size+1) 3 (opL' A1))(hB:u.rangeAt (w.heap.size+1) 9 (opL' B1)):u.heap[w.heap.size+1]?=some (.cells (insL { I with a:=A1,b:=B1 }).toArray 34 (0,0)):=by
 obtain⟨X,Y,_,_,h5⟩:=h.b5
 have e1:X=A1:=opL_inj (range_same (range_in13 h5 3 (opL' X) rfl) hA rfl)
 have e2:Y=B1:=opL_inj (range_same (range_in13 h5 9 (opL' Y) rfl) hB rfl)
 rw[h5,e1,e2]
end
set_option maxHeartbeats 8000000
theorem do15_walk(b:Nat)(F:Nat→Prop)(g:Int→Int)(pg:Int→Bool)(cc dd:Sg)(s:Sta)(I:Ins)(hs:StaOk s)(hI:DecI I)(w:World)(hP:PBus w b F g pg cc dd):
  Calls Tryz.prog 17 #[.pointer (some ⟨b,0,none⟩),staV s,insV I] w fun e w'=>∃F' pg',e=.returned (.tuple #[staV (AluT g dd s I),.int .i64 (aluE g dd s I)])∧(∀k,F' k→F k∨w.heap.size≤k)∧PBus w' b F' (aluG g dd s I) pg' cc dd∧But F w w':=by
 have hmf:∀(fn:Fn) (first cap:Array Value) (w:World),(Instr.makeFunc fn first cap).run Tryz.prog w=.ok (.func fn first cap) w:=fun _ _ _ _=>rfl
 have hD:=hI.alu
 have HAG:=Lib.hid (land_agree (g:=g) (dd:=dd) (s:=s) hD hI.2)
 have HNO:=Lib.hid (alu_of g dd s I)
 have hA1:0≤(pinI s I).a.disp∧(pinI s I).a.disp<4294967296:=pin_disp hD.opds.1.2
 have hB1:0≤(pinI s I).b.disp∧(pinI s I).b.disp<4294967296:=pin_disp hD.opds.2.2
 have HRK:=Lib.hid (fun(w1:World) (F0:Nat→Prop) (D:Nat) (u:World) (h:DM w1 F0 D b g cc dd s (pinI s I) u)=>reckon_any15 hs hA1 hB1 hD.c (by have:=hD.cond;show -9223372036854775808≤I.cond;omega) (by have:=hD.cond;show I.cond≤9223372036854775807;omega) hI.2 u h)
 have HPA:=Lib.hid (fun u=>pinned_any s I.a hs u)
 have HPA2:=Lib.hid (fun u=>pinned_any s (pinF s I.a) hs u)
 have HPB:=Lib.hid (fun u=>pinned_any s I.b hs u)
 have HPB2:=Lib.hid (fun u=>pinned_any s (pinF s I.b) hs u)
 rw[pin_twice]at HPA2 HPB2
 obtain⟨M,hM⟩:∃M,reckZ g dd s (pinI s I)=M:=⟨_,rfl⟩
 rw[hM]at HAG HRK
 rw[show pinI s I={ I with a:=pinF s I.a,b:=pinF s I.b }from rfl]at HRK
 obtain⟨A1,hA⟩:∃A1,pinF s I.a=A1:=⟨_,rfl⟩
 obtain⟨B1,hB⟩:∃B1,pinF s I.b=B1:=⟨_,rfl⟩
 rw[hA]at HPA HPA2 HRK
 rw[hB]at HPB HPB2 HRK
 have HP:=Lib.hid hP
 clear hA hB hM hD hA1 hB1 hs hI hP
 rw[show staV s=.agg (staL s).toArray from rfl]at HPA HPA2 HPB HPB2
 unfold staV insV insC
 go_enter_defers Tryz.func17,Tryz.ntmps17
 go_upto_region 2 with fail
 obtain⟨W,hW⟩:∃W,W=(((w.alloc (.cells (staL s).toArray 29)).alloc (.cells #[.int .i64 I.op,.int .i64 I.cond,.int .i64 I.size,.int .i64 I.a.kind,.int .i64 I.a.reg,.int .i64 I.a.base,.int .i64 I.a.index,.int .i64 I.a.scale,.int .u32 I.a.disp,.int .i64 I.b.kind,.int .i64 I.b.reg,.int .i64 I.b.base,.int .i64 I.b.index,.int .i64 I.b.scale,.int .u32 I.b.disp,.int .u32 I.c,.bool I.rep,.int .i64 I.len] 34)).alloc (.cells staZA 29)).alloc (.cells #[.int .i64 0] 3):=⟨_,rfl⟩
 unfold staZA at hW
 rw[←hW]
 have HI:=Lib.hid (show PinC w s I A1 B1 W from hW ▸ pin_start w s I A1 B1)
 clear hW
 refine wp_region_vals (by kernel_rfl) (fun n=>n==9 || n==11) (by kernel_rfl) (PinC w s I A1 B1) (PinG (w.heap.size+1) A1 B1) (PinV (w.heap.size+1) s I A1 B1) pin_stays (PinG.refl _ _ _) (HI.out.below ((Below.refl _ _).drew)) ?_ ?_
 ·intro n op f u ho hinv _ hbase hdep
  have hn:n<12:=(Array.getElem?_eq_some_iff.1 ho).1
  have b4:f.tmps.getD 4 undef=.pointer (some ⟨w.heap.size,0,none⟩):=hbase 4 (by kernel_rfl)
  have b5:f.tmps.getD 5 undef=.pointer (some ⟨w.heap.size+1,0,none⟩):=hbase 5 (by kernel_rfl)
  have hl:=lo_row 29 _ Tryz.underlying29 rfl (cs:=staL s) info_sta (range_in13 hinv.b4 0 (staL s) rfl)
  clear hbase
  rcases(show n=0∨n=1∨n=2∨n=3∨n=4∨n=5∨n=6∨n=7∨n=8∨n=9∨n=10∨n=11 by omega)with rfl|rfl|rfl|rfl|rfl|rfl|rfl|rfl|rfl|rfl|rfl|rfl
  ·cases ho
   exact wp_val (by simp[execOp,Act.eval,b4,hl]<;>rfl) ⟨_,rfl,hinv,PinG.refl _ _ _ _,rfl⟩
  ·cases ho
   exact wp_val (by simp[execOp,Act.eval,b5,go_sem]<;>rfl) ⟨_,rfl,hinv,PinG.refl _ _ _ _,rfl⟩
  ·cases ho
   have e:f.tmps.getD 11 undef=.pointer (some ⟨w.heap.size+1,3,none⟩):=hdep 1 (by kernel_rfl)
   rcases hinv.opa with h|h
   ·have ho:=lo_row 32 _ Tryz.underlying32 rfl (cs:=opL' I.a) info_opd1 h
    exact wp_val (by simp[execOp,Act.eval,e,ho]<;>rfl) ⟨_,rfl,hinv,PinG.refl _ _ _ _,.inl rfl⟩
   ·have ho:=lo_row 32 _ Tryz.underlying32 rfl (cs:=opL' A1) info_opd1 h
    exact wp_val (by simp[execOp,Act.eval,e,ho]<;>rfl) ⟨_,rfl,hinv,PinG.refl _ _ _ _,.inr rfl⟩
  ·cases ho
   have e10:f.tmps.getD 10 undef=.agg (staL s).toArray:=hdep 0 (by kernel_rfl)
   have e12:f.tmps.getD 12 undef=.agg (opL' I.a).toArray∨f.tmps.getD 12 undef=.agg (opL' A1).toArray:=hdep 2 (by kernel_rfl)
   rcases e12 with e12|e12
   ·refine wp_call (by simp[execOp,Act.eval,e10,e12,go_sem]<;>rfl) ((HPA.out u).mono ?_)
    rintro e u2 ⟨rfl,hb⟩
    exact⟨_,rfl,_,rfl,hinv.below hb,PinG.below hb,rfl⟩
   ·refine wp_call (by simp[execOp,Act.eval,e10,e12,go_sem]<;>rfl) ((HPA2.out u).mono ?_)
    rintro e u2 ⟨rfl,hb⟩
    exact⟨_,rfl,_,rfl,hinv.below hb,PinG.below hb,rfl⟩
  ·cases ho
   exact wp_val (by simp[execOp,Act.eval,b4,hl]<;>rfl) ⟨_,rfl,hinv,PinG.refl _ _ _ _,rfl⟩
  ·cases ho
   exact wp_val (by simp[execOp,Act.eval,b5,go_sem]<;>rfl) ⟨_,rfl,hinv,PinG.refl _ _ _ _,rfl⟩
  ·cases ho
   have e:f.tmps.getD 15 undef=.pointer (some ⟨w.heap.size+1,9,none⟩):=hdep 5 (by kernel_rfl)
   rcases hinv.opb with h|h
   ·have ho:=lo_row 32 _ Tryz.underlying32 rfl (cs:=opL' I.b) info_opd1 h
    exact wp_val (by simp[execOp,Act.eval,e,ho]<;>rfl) ⟨_,rfl,hinv,PinG.refl _ _ _ _,.inl rfl⟩
   ·have ho:=lo_row 32 _ Tryz.underlying32 rfl (cs:=opL' B1) info_opd1 h
    exact wp_val (by simp[execOp,Act.eval,e,ho]<;>rfl) ⟨_,rfl,hinv,PinG.refl _ _ _ _,.inr rfl⟩
  ·cases ho
   have e14:f.tmps.getD 14 undef=.agg (staL s).toArray:=hdep 4 (by kernel_rfl)
   have e16:f.tmps.getD 16 undef=.agg (opL' I.b).toArray∨f.tmps.getD 16 undef=.agg (opL' B1).toArray:=hdep 6 (by kernel_rfl)
   rcases e16 with e16|e16
   ·refine wp_call (by simp[execOp,Act.eval,e14,e16,go_sem]<;>rfl) ((HPB.out u).mono ?_)
    rintro e u2 ⟨rfl,hb⟩
    exact⟨_,rfl,_,rfl,hinv.below hb,PinG.below hb,rfl⟩
   ·refine wp_call (by simp[execOp,Act.eval,e14,e16,go_sem]<;>rfl) ((HPB2.out u).mono ?_)
    rintro e u2 ⟨rfl,hb⟩
    exact⟨_,rfl,_,rfl,hinv.below hb,PinG.below hb,rfl⟩
  ·cases ho
   exact wp_val (by simp[execOp,Act.eval,b5,go_sem]<;>rfl) ⟨_,rfl,hinv,PinG.refl _ _ _ _,rfl⟩
  ·cases ho
   have e18:f.tmps.getD 18 undef=.pointer (some ⟨w.heap.size+1,3,none⟩):=hdep 8 (by kernel_rfl)
   have e13:f.tmps.getD 13 undef=.agg (opL' A1).toArray:=hdep 3 (by kernel_rfl)
   obtain⟨X,Y,_,_,h5⟩:=hinv.b5
   obtain⟨p1,p2,p3⟩:=hinv.put 3 A1 (.inl ⟨rfl,rfl⟩)
   exact wp_store_mid 32 (.tmp 18) (.tmp 13) rfl (w.heap.size+1) 3 (opL' A1).toArray e18 e13 (there_block h5 3 6 (by simp[insL])) info_opd1 (by simp[opL',Value.oneCell']) ⟨undef,rfl,p1,p3,p2⟩
  ·cases ho
   exact wp_val (by simp[execOp,Act.eval,b5,go_sem]<;>rfl) ⟨_,rfl,hinv,PinG.refl _ _ _ _,rfl⟩
  ·cases ho
   have e19:f.tmps.getD 19 undef=.pointer (some ⟨w.heap.size+1,9,none⟩):=hdep 10 (by kernel_rfl)
   have e17:f.tmps.getD 17 undef=.agg (opL' B1).toArray:=hdep 7 (by kernel_rfl)
   obtain⟨X,Y,_,_,h5⟩:=hinv.b5
   obtain⟨p1,p2,p3⟩:=hinv.put 9 B1 (.inr ⟨rfl,rfl⟩)
   exact wp_store_mid 32 (.tmp 19) (.tmp 17) rfl (w.heap.size+1) 9 (opL' B1).toArray e19 e17 (there_block h5 9 6 (by simp[insL])) info_opd1 (by simp[opL',Value.oneCell']) ⟨undef,rfl,p1,p3,p2⟩
 ·intro f u hinv hV
  have h9:=hV 9 (by decide)
  have h11:=hV 11 (by decide)
  have HW:=Lib.hid (hinv.whole h9 h11)
  have HC:=Lib.hid hinv
  clear hV h9 h11 hinv HPA HPA2 HPB HPB2 HI
  simp only[List.size_toArray,List.length_cons,List.length_nil,Nat.reduceAdd,laid,List.getElem?_toArray,List.getElem?_cons_zero,List.getElem?_cons_succ,Option.bind_some,Act.put,List.setIfInBounds_toArray,List.set_cons_zero,List.set_cons_succ]
  rw[show w.heap.size+1+1+1=w.heap.size+3 from rfl,show w.heap.size+1+1=w.heap.size+2 from rfl]
  obtain⟨I1,hI1⟩:∃I1:Ins,({ I with a:=A1,b:=B1 }:Ins)=I1:=⟨_,rfl⟩
  have hR4:=Lib.hid (range_in13 HC.out.b4 0 (staL s) rfl)
  have hR5:=Lib.hid (range_in13 HW.out 0 (insL { I with a:=A1,b:=B1 }) rfl)
  rw[hI1]at hR5
  rw[show({ op:=I.op,cond:=I.cond,size:=I.size,a:=A1,b:=B1,c:=I.c,rep:=I.rep,len:=I.len }:Ins)=I1 from hI1]at HRK
  clear HW hI1
  go_upto_region 4 with(first
   |(refine wpList_load_mid rfl 34 (.tmp 5) rfl (w.heap.size+1) 0 rfl (insL I1) _ hR5.out Tryz.underlying34 rfl info_ins ?_)
   |(refine wpList_load_mid rfl 29 (.tmp 4) rfl w.heap.size 0 rfl (staL s) _ hR4.out Tryz.underlying29 rfl info_sta ?_)
   |(refine wpList_val rfl (.build 91 #[(0,.tmp 20),(1,.tmp 21),(2,.tmp 22)]) rfl (.agg (doL b s I1).toArray) (by kernel_rfl) ?_))
  obtain⟨W4,hW4⟩:∃W4,W4=u.alloc (.cells (doL b s I1).toArray 91):=⟨_,rfl⟩
  rw[←hW4]
  obtain⟨N,hN⟩:∃N,N=u.heap.size:=⟨_,rfl⟩
  rw[←hN]
  have HC4:=Lib.hid (show PinC w s I A1 B1 W4 by rw[hW4];exact HC.out.below (below_last (Below.refl _ _) _))
  have HNZ:=Lib.hid (show w.heap.size≤N∧W4.heap.size=N+1 by rw[hN,hW4];exact⟨HC.out.bel.size,by simp⟩)
  have HB7:=Lib.hid (show w.heap.size+3<N by rw[hN];exact(Array.getElem?_eq_some_iff.1 HC.out.b7).1)
  have HBE:=Lib.hid (show Below w.heap.size w W4 from HC4.out.bel)
  have HP4:=Lib.hid (HP.out.but (G:=fun _=>False) (But.of_below HBE.out) (fun _ _ h=>h))
  have HFN:=Lib.hid (show ∀k,w.heap.size≤k→¬F k from fun k hk hF=>by have:=HP.out.lt k hF;omega)
  have HDF:=Lib.hid (show DF W4 F N b g cc dd s I1 W4 F from⟨by rw[hW4,hN];exact heap_15 _ _,⟨pg,HP4.out⟩,fun _ h=>.inl h,But.refl _ _,by have:=HNZ.out;omega,HFN.out N HNZ.out.1⟩)
  have HDM:=Lib.hid (show DM W4 F N b g cc dd s I1 W4 from⟨F,HDF.out⟩)
  clear hW4 hN HC
  go_wp2_with fail
  ((with_reducible refine(HRK.out W4 F N _ HDM.out).mono ?_);rintro e w5 ⟨rfl,F5,hd⟩)
  have HD5:=Lib.hid hd
  have HST:=Lib.hid (fun(B:Nat) (o:Obj) (hB:W4.heap[B]?=some o) (h1:w.heap.size≤B) (h2:B≤w.heap.size+3)=>hd.stays hB (HFN.out B h1) (by have:=HB7.out;omega))
  have HF5:=Lib.hid (show ∀k,F5 k→F k∨N<k from fun k hk=>(hd.new k hk).imp id (fun q=>by have:=HNZ.out;omega))
  have HBT:=Lib.hid (show But F w w5 from(But.of_below HBE.out).trans hd.but (fun i hi e=>e.elim id (fun e=>by have:=HNZ.out;omega)))
  obtain⟨pg5,hp5⟩:=hd.bus
  have HP5:=Lib.hid hp5
  clear hd hp5
  obtain⟨hAE,hAG,hAT⟩:=HAG.out
  -- the cells that are answered
  have b6:=HST.out _ _ HC4.out.b6 (by omega) (by omega)
  have b7:=HST.out _ _ HC4.out.b7 (by omega) (by omega)
  have b4:=HST.out _ _ HC4.out.b4 (by omega) (by omega)
  have HB6:=Lib.hid b6
  have HB7c:=Lib.hid b7
  have HB4:=Lib.hid b4
  clear b4 b6 b7
  have HAE:=Lib.hid hAE
  have HAGG:=Lib.hid hAG
  have HAT:=Lib.hid hAT
  clear hAE hAG hAT HAG HST HDM HDF HC4
  -- what stays when both are written
  have HEND:=Lib.hid (show ∀Y:World,But (fun k=>k=w.heap.size+2∨k=w.heap.size+3) w5 Y→(∀k,F5 k→F k∨w.heap.size≤k)∧PBus Y b F5 M.g pg5 cc dd∧But F w Y from fun Y hY=>
   ⟨fun k hk=>(HF5.out k hk).imp id (fun q=>by have:=HNZ.out;omega),HP5.out.but hY (fun k hk e=>(HF5.out k hk).elim (fun q=>HFN.out k (by omega) q) (fun q=>by have:=HB7.out;omega)),HBT.out.trans hY (fun i hi e=>by omega)⟩)
  by_cases h:M.e=0
  ·rw[endO_ok h]
   have hT:=HAT.out h
   have he:aluE g dd s I=0:=HAE.out.symm.trans h
   have HT:=Lib.hid hT
   have HE:=Lib.hid he
   clear h hT he
   go_upto_region 5 with fail
   have HSR:=Lib.hid (show w5.rangeAt N 19 (staL M.t)from(show DM W4 F N b M.g cc dd M.t I1 w5 from⟨F5,HD5.out⟩).sta)
   go_wp2_with (first
    |(refine wpList_load_mid rfl 29 (.tmp 29) rfl N 19 rfl (staL M.t) _ HSR.out Tryz.underlying29 rfl info_sta ?_)
    |(refine store_named rfl 29 (.tmp 6) (.tmp 30) rfl (w.heap.size+2) 0 (staL M.t) rfl rfl (there_block HB6.out 0 23 (by decide)) info_sta (sta_one M.t) ?_;intro Y hY;have hbY:But (·=w.heap.size+2) w5 Y:=by rw[hY];exact(But.refl (·=w.heap.size+2) w5).cells (fun _=>rfl) _ _
      have h7:Y.heap[w.heap.size+3]?=some (.cells #[.int .i64 0] 3 (0,0)):=(hbY.block _ (Array.getElem?_eq_some_iff.1 HB7c.out).1 (by omega)).trans HB7c.out
      have h6:=block_setCells (T:=29) (staL M.t) 0 w5 _ HB6.out
      rw[←hY,setL_full (show staZA.size=(staL M.t).length from rfl)]at h6
      have H6:=Lib.hid h6
      have H7:=Lib.hid h7
      have HBY:=Lib.hid hbY
      have c7:Y.cell? ⟨w.heap.size+3,0,none⟩=some (.int .i64 0):=(cell_block h7 0).1
      have z7:=(cell_block h7 0).2
      clear hY hbY h6 h7))
   obtain⟨Z,hZ⟩:∃Z,Z=Y.setCell ⟨w.heap.size+3,0,none⟩ (.int .i64 0):=⟨_,rfl⟩
   rw[←hZ]
   have g6:Z.heap[w.heap.size+2]?=some (.cells (staL M.t).toArray 29 (0,0)):=by rw[hZ];exact(other_setCell (by omega) 0 _).trans H6.out
   have g7:Z.heap[w.heap.size+3]?=some (.cells #[.int .i64 0] 3 (0,0)):=by rw[hZ];exact block_setCell H7.out 0 _
   have gb:But (fun k=>k=w.heap.size+2∨k=w.heap.size+3) w5 Z:=by rw[hZ];exact(HBY.out.mono (fun _ _ e=>.inl e)).setCell (a:=⟨w.heap.size+3,0,none⟩) (fun _=>.inr rfl) _
   unfold bodyPostD
   refine leaves_cons (f:=38) (args:=#[.pointer (some ⟨w.heap.size,0,none⟩),.pointer (some ⟨w.heap.size+2,0,none⟩),.pointer (some ⟨w.heap.size+3,0,none⟩)]) (by simp) (by simp[go_sem]) ?_
   refine(catch_none w.heap.size (w.heap.size+2) (w.heap.size+3) Z).mono ?_
   rintro e u' w6 ⟨rfl,rfl,rfl⟩
   show Leaves Tryz.prog _ _ _ [] (settle _) _
   have hl:=load_range (P:=Tryz.prog) (cs:=staL M.t) 29 _ Tryz.underlying29 rfl info_sta (range_in13 g6 0 _ rfl)
   have h8:w6.cell? ⟨w.heap.size+3,0,none⟩=some (.int .i64 0):=(cell_block g7 0).1
   have hm:(loadVar 3 ⟨w.heap.size+3,0,none⟩).run Tryz.prog w6=.ok (.int .i64 0) w6:=by simp[loadVar,go_sem,h8]
   obtain⟨q1,q2,q3⟩:=HEND.out w6 gb
   rw[HAGG.out]at q2
   exact⟨_,results_cell_cell rfl rfl rfl hl hm,F5,pg5,by rw[←HT.out,HE.out],q1,q2,q3⟩
  ·rw[endO_bad h]
   have ha:=(HNO.out.resolve_left (fun e=>h (HAE.out.trans e)))
   have HA:=Lib.hid ha
   clear h ha
   show bodyPostD _ _ _ (Exit.panic _) _ w5
   unfold bodyPostD
   refine leaves_cons (f:=38) (args:=#[.pointer (some ⟨w.heap.size,0,none⟩),.pointer (some ⟨w.heap.size+2,0,none⟩),.pointer (some ⟨w.heap.size+3,0,none⟩)]) (by simp) (by simp[go_sem]) ?_
   refine(catch_fault w.heap.size (w.heap.size+2) (w.heap.size+3) s M.e [] w5 ⟨HB4.out,⟨_,HB6.out,rfl⟩,⟨_,HB7c.out⟩,But.refl _ _⟩ (by omega) (by omega) (by omega)).mono ?_
   rintro e u' w6 ⟨rfl,rfl,h6,h7,hb⟩
   show Leaves Tryz.prog _ _ _ [] (settle _) _
   have hl:=load_range (P:=Tryz.prog) (cs:=staL s) 29 _ Tryz.underlying29 rfl info_sta (range_in13 h6 0 _ rfl)
   have h8:w6.cell? ⟨w.heap.size+3,0,none⟩=some (.int .i64 M.e):=(cell_block h7 0).1
   have hm:(loadVar 3 ⟨w.heap.size+3,0,none⟩).run Tryz.prog w6=.ok (.int .i64 M.e) w6:=by simp[loadVar,go_sem,h8]
   obtain⟨q1,q2,q3⟩:=HEND.out w6 hb
   rw[HAGG.out]at q2
   exact⟨_,results_cell_cell rfl rfl rfl hl hm,F5,pg5,by rw[HA.out.2.2,←HAE.out],q1,q2,q3⟩
theorem do15_any:DoC 17:=fun b F g pg cc dd s I hs hI w hP=>do15_walk b F g pg cc dd s I hs hI w hP
end
section
set_option maxRecDepth 100000
theorem is15_any:IsC 15:=fun op w=>is15_walk op w
end
end Go.Proofs.YtmdncgfheeijaaaGreat
