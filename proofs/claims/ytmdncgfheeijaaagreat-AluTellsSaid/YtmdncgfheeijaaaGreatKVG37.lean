import Derived.Test.YtmdncgfheeijaaaGreatKVG36
namespace Go.Proofs.YtmdncgfheeijaaaGreat
open Go.ChangeShapes Go.WideShapes Go.ChangeAt Go.RowKit
set_option maxRecDepth 100000
set_option maxHeartbeats 4000000
theorem rmade_2(i:Ins)(f:Frm)(rm:Opd)(reg:Int)(v:Value)(L:Nat)(bs:Nat→Int)(k0:Nat)(hb:∀i,0≤bs i∧bs i<256)(w:World)(hs:Slc .u8 w v L bs)(hL:L≤1099511627776)(hk0:k0≤L)(hh:f.how.length≤100)(hz:∀c,c∈f.how→c=71∨c=69∨c=76∨c=66∨c=73∨c=98):
  Calls Tryz.prog 26 #[insV i,frmV f,opV rm,.int .i64 reg,v,.int .i64 (k0:Int)] w fun e w'=>e=.returned (insR (madeF i f rm reg L bs k0))∧Below w.heap.size w w':=by
 obtain⟨a,cap,rfl⟩:=hs.len
 have HS:=Lib.hid hs
 have HB:=Lib.hid hb
 obtain⟨s,hs'⟩:∃s:ByteArray,s=⟨f.how.toArray⟩:=⟨_,rfl⟩
 have hN:s.size=f.how.length:=by rw[hs'];show f.how.toArray.size=_;simp
 have HN:=Lib.hid hN
 have HZL:=Lib.hid hz
 clear hz
 have HSS:=Lib.hid hs'
 rw[←hN]at hh
 clear hs hb hN
 unfold insV insC frmV opV
 rw[←hs']
 clear hs'
 go_enter Tryz.func26,Tryz.ntmps26
 go_wp2
 go_loopw [5,14,15] (fun v5 v14 v15 u=>∃(k:Nat) (t:Mst),k≤s.size∧v15=.int .i64 k∧runM f rm reg L bs (f.how.take k) ⟨[],i.c,k0⟩=some t∧v5=.int .i64 (t.at_:Int)∧t.at_≤L∧t.l.length≤k∧MI w i f s rm t.l t.c v14 u) (fun _ _ v15 _=>s.size-(intOf v15).toNat)
 case atStart=>exact⟨0,⟨[],i.c,k0⟩,Nat.zero_le _,rfl,rfl,rfl,hk0,Nat.le_refl _,OwnO.nil _ _,Below.refl _ _⟩
 case round=>
  obtain⟨k,t,hkN,rfl,hrun,rfl,hat,hlk,hmi⟩:=hrel
  obtain⟨l,C,at_⟩:=t
  replace hat:at_≤L:=hat
  replace hlk:l.length≤k:=hlk
  replace hmi:MI w i f s rm l C u14 wr:=hmi
  have HMI:=Lib.hid hmi
  have HOWN:=Lib.hid hmi.own
  have hus:=hmi.size
  have HRUN:=Lib.hid hrun
  have f2:wr.cell? ⟨w.heap.size+1,2,none⟩=some (.int .i64 f.size):=by rw[hmi.cell 1 2 (by decide)];unfold madeW;simp[go_sem]
  have f3:wr.cell? ⟨w.heap.size+1,3,none⟩=some (.string s):=by rw[hmi.cell 1 3 (by decide)];unfold madeW;simp[go_sem]
  have f4:wr.cell? ⟨w.heap.size+1,4,none⟩=some (.int .i64 f.c):=by rw[hmi.cell 1 4 (by decide)];unfold madeW;simp[go_sem]
  have r0:wr.cell? ⟨w.heap.size+2,0,none⟩=some (.int .i64 rm.kind):=by rw[hmi.cell 2 0 (by decide)];unfold madeW;simp[go_sem]
  have r1:wr.cell? ⟨w.heap.size+2,1,none⟩=some (.int .i64 rm.reg):=by rw[hmi.cell 2 1 (by decide)];unfold madeW;simp[go_sem]
  have r2:wr.cell? ⟨w.heap.size+2,2,none⟩=some (.int .i64 rm.base):=by rw[hmi.cell 2 2 (by decide)];unfold madeW;simp[go_sem]
  have r3:wr.cell? ⟨w.heap.size+2,3,none⟩=some (.int .i64 rm.index):=by rw[hmi.cell 2 3 (by decide)];unfold madeW;simp[go_sem]
  have r4:wr.cell? ⟨w.heap.size+2,4,none⟩=some (.int .i64 rm.scale):=by rw[hmi.cell 2 4 (by decide)];unfold madeW;simp[go_sem]
  have r5:wr.cell? ⟨w.heap.size+2,5,none⟩=some (.int .u32 rm.disp):=by rw[hmi.cell 2 5 (by decide)];unfold madeW;simp[go_sem]
  by_cases hlt:k<s.size
  ·have hkl:k<f.how.length:=by rw[←HN.out];exact hlt
   have hget:f.how[k]=s[k]:=by have:=HSS.out;subst this;rfl
   have HRL:=Lib.hid (show runM f rm reg L bs (f.how.take (k+1)) ⟨[],i.c,k0⟩=stepM f rm reg L bs ⟨l,C,at_⟩ s[k]by rw[runM_snoc f rm reg L bs f.how k hkl _ _ hrun,hget])
   have HGET:=Lib.hid hget
   have c15:wr.cell? ⟨w.heap.size,15,none⟩=some (.int .u32 C):=by rw[←Nat.add_zero w.heap.size,hmi.cell 0 15 (by decide)];unfold madeW;simp[go_sem]
   have z15:wr.frozen? ⟨w.heap.size,15,none⟩=false:=by rw[←Nat.add_zero w.heap.size,hmi.froz 0 15 (by decide)];unfold madeW;simp[go_sem]
   clear hget hrun hmi
   by_cases z71:s[k]=71
   ·have hzi:(s[k].toNat:Int)=71:=by rw[z71];rfl
    have HZ:=Lib.hid z71
    clear z71
    obtain⟨q,hq⟩:∃q,smallO f.size reg=q:=⟨_,rfl⟩
    have HQ:=fun u=>rsmall_any f.size reg u
    rw[hq]at HQ
    unfold opV at HQ
    have HQ:=Lib.hid HQ
    have HBW:=Lib.hid (Below.refl wr.heap.size wr)
    have hst:stepM f rm reg L bs ⟨l,C,at_⟩ 71=some ⟨l++[q],C,at_+0⟩:=by
     unfold stepM
     rw[show needF f.size 71=0 from rfl,if_neg (by show ¬L<at_+0;omega)]
     rw[←hq];rfl
    have HST:=Lib.hid hst
    have hd1:decide ((L:Int)<(at_:Int))=false:=decide_eq_false (by omega)
    have hd2:decide (L<at_)=false:=decide_eq_false (by omega)
    clear hst
    clear hq
    go_wp2_with (first|(go_at_call 53;(with_reducible refine(HQ.out _).mono ?_);rintro e u1 ⟨rfl,hb1⟩;have HB1:=Lib.hid (below_step HBW.out hb1);clear hb1)|(at_builtin;go_loud (refine append_opd rfl (.tmp 126) (.tmp 131) rfl (w.heap.size+4) _ l rfl (HOWN.out.below (below_last HB1.out _)) _ q rfl (by simp[go_sem]) (by simp[go_sem]) (by simp[go_sem]) (by simp[go_sem]) (by simp[go_sem]) (by simp[go_sem]) (by omega) (by first|(simp;omega)|(have:=HB1.out.size;simp;omega)) ?_);intro v' u2 ho hkeep;have HO:=Lib.hid ho;have HK:=Lib.hid hkeep;clear ho hkeep))
    go_roundw
    case rel=>exact⟨k+1,⟨l++[q],C,at_+0⟩,by omega,by go_num,by rw[HRL.out,HZ.out];exact HST.out,by go_num,by show at_+0≤L;omega,by simp;omega,HMI.out.push (below_last HB1.out _) HO.out HK.out⟩
    case measure=>simp[intOf];omega
   by_cases z69:s[k]=69
   ·have hzi:(s[k].toNat:Int)=69:=by rw[z69];rfl
    have HZ:=Lib.hid z69
    clear z69
    by_cases hsz:f.size=1
    ·have es:(f.size==1)=true:=by simpa using hsz
     obtain⟨q,hq⟩:∃q,turnO rm 2=q:=⟨_,rfl⟩
     have HQ:=fun u=>rturned_any rm 2 u
     rw[hq]at HQ
     unfold opV at HQ
     have HQ:=Lib.hid HQ
     have HBW:=Lib.hid (Below.refl wr.heap.size wr)
     have hst:stepM f rm reg L bs ⟨l,C,at_⟩ 69=some ⟨l++[q],C,at_+0⟩:=by
      unfold stepM
      rw[show needF f.size 69=0 from rfl,if_neg (by show ¬L<at_+0;omega)]
      show some (Mst.mk (l++[if f.size=1 then turnO rm 2 else rm]) C (at_+0))=_;rw[if_pos hsz,hq]
     have HST:=Lib.hid hst
     have hd1:decide ((L:Int)<(at_:Int))=false:=decide_eq_false (by omega)
     have hd2:decide (L<at_)=false:=decide_eq_false (by omega)
     clear hst
     clear hq hsz
     go_wp2_with (first|(go_at_call 52;(with_reducible refine(HQ.out _).mono ?_);rintro e u1 ⟨rfl,hb1⟩;have HB1:=Lib.hid (below_step HBW.out hb1);clear hb1)|(at_builtin;go_loud (refine append_opd rfl (.tmp 102) (.tmp 105) rfl (w.heap.size+4) _ l rfl (HOWN.out.below (below_last HB1.out _)) _ q rfl (by simp[go_sem]) (by simp[go_sem]) (by simp[go_sem]) (by simp[go_sem]) (by simp[go_sem]) (by simp[go_sem]) (by omega) (by first|(simp;omega)|(have:=HB1.out.size;simp;omega)) ?_);intro v' u2 ho hkeep;have HO:=Lib.hid ho;have HK:=Lib.hid hkeep;clear ho hkeep))
     go_roundw
     case rel=>exact⟨k+1,⟨l++[q],C,at_+0⟩,by omega,by go_num,by rw[HRL.out,HZ.out];exact HST.out,by go_num,by show at_+0≤L;omega,by simp;omega,HMI.out.push (below_last HB1.out _) HO.out HK.out⟩
     case measure=>simp[intOf];omega
    ·have es:(f.size==1)=false:=by simpa using hsz
     have hst:stepM f rm reg L bs ⟨l,C,at_⟩ 69=some ⟨l++[rm],C,at_+0⟩:=by
      unfold stepM
      rw[show needF f.size 69=0 from rfl,if_neg (by show ¬L<at_+0;omega)]
      show some (Mst.mk (l++[if f.size=1 then turnO rm 2 else rm]) C (at_+0))=_;rw[if_neg hsz]
     have HST:=Lib.hid hst
     have hd1:decide ((L:Int)<(at_:Int))=false:=decide_eq_false (by omega)
     have hd2:decide (L<at_)=false:=decide_eq_false (by omega)
     clear hst
     clear hsz
     go_wp2_with (at_builtin;go_loud (refine append_opd rfl (.tmp 107) (.tmp 109) rfl (w.heap.size+4) _ l rfl (HOWN.out.below (below_last (Below.refl _ _) _)) _ rm rfl (by simp[go_sem]) (by simp[go_sem]) (by simp[go_sem]) (by simp[go_sem]) (by simp[go_sem]) (by simp[go_sem]) (by omega) (by first|(simp;omega)|(have:=HB1.out.size;simp;omega)) ?_);intro v' u2 ho hkeep;have HO:=Lib.hid ho;have HK:=Lib.hid hkeep;clear ho hkeep)
     go_roundw
     case rel=>exact⟨k+1,⟨l++[rm],C,at_+0⟩,by omega,by go_num,by rw[HRL.out,HZ.out];exact HST.out,by go_num,by show at_+0≤L;omega,by simp;omega,HMI.out.push (below_last (Below.refl _ _) _) HO.out HK.out⟩
     case measure=>simp[intOf];omega
   by_cases z76:s[k]=76
   ·have hzi:(s[k].toNat:Int)=76:=by rw[z76];rfl
    have HZ:=Lib.hid z76
    clear z76
    by_cases hsh:L<at_+4
    ·have hst:stepM f rm reg L bs ⟨l,C,at_⟩ 76=none:=by
      unfold stepM
      rw[show needF f.size 76=4 from rfl,if_pos hsh]
     have HF:=Lib.hid (show madeF i f rm reg L bs k0=(zeroI,21)by unfold madeF;rw[runM_none f rm reg L bs f.how k hkl _ _ HRUN.out (by rw[HGET.out,HZ.out];exact hst)])
     have hd1:decide ((L:Int)<(at_:Int)+4)=true:=decide_eq_true (by omega)
     have hblk:wr.heap[w.heap.size+1+1+1]?=some (.cells ZL.toArray 34 (0,0)):=by rw[HMI.out.below.block _ (by omega)];unfold madeW;exact heap_top _ _ _ (by simp)
     have hth:wr.there (w.heap.size+1+1+1) 0 18:=there_block hblk 0 18 (by decide)
     have hinf:(Tryz.prog.info? 34).map (·.size)=some 18:=by kernel_rfl
     have hload:=load_range (P:=Tryz.prog) (cs:=ZL) 34 _ Tryz.underlying34 rfl hinf (World.rangeAt_setCells_same wr (w.heap.size+1+1+1) 0 ZL hth)
     have hbl:=below_setCells (show w.heap.size≤w.heap.size+1+1+1 by omega) ZL 0 wr HMI.out.all
     obtain⟨W,hW⟩:∃W,wr.setCells (w.heap.size+1+1+1) 0 ZL=W:=⟨_,rfl⟩
     rw[hW]at hload hbl
     have hone:(ZL.toArray:Array Value).all (·.oneCell')=true:=by kernel_rfl
     have HONE:=Lib.hid hone
     have HTH:=Lib.hid hth
     have HINF:=Lib.hid hinf
     have HLOAD:=Lib.hid hload
     have HBL:=Lib.hid hbl
     have HW:=Lib.hid hW
     clear hone hst hsh hblk hth hinf hload hbl hW
     go_wp2_with (refine wpList_store_mid rfl 34 (.tmp 12) (.tmp 50) rfl (w.heap.size+1+1+1) 0 ZL.toArray rfl rfl HTH.out HINF.out HONE.out ?_;rw[show wr.setCells (w.heap.size+1+1+1) 0 (ZL.toArray:Array Value).toList=W from HW.out];clear HW HTH HONE)
     have hld:=HLOAD.out
     refine bodyPost_ret (v:=.tuple #[.agg ZL.toArray,.int .i64 21]) (results_cell_tmp (P:=Tryz.prog) (a:=12) (b:=13) rfl rfl rfl hld) rfl ⟨by rw[HF.out];rfl,HBL.out⟩
    obtain⟨ad,rfl,hl,hc⟩:=at_slice (HS.out.below HMI.out.all) (show 0<L by omega)
    obtain⟨x0,hx0⟩:∃x,bs (at_+0)=x:=⟨_,rfl⟩
    have hxb0:0≤x0∧x0<256:=by rw[←hx0];exact HB.out _
    have hc0:=hc (at_+0) (by omega)
    rw[hx0]at hc0
    obtain⟨x1,hx1⟩:∃x,bs (at_+1)=x:=⟨_,rfl⟩
    have hxb1:0≤x1∧x1<256:=by rw[←hx1];exact HB.out _
    have hc1:=hc (at_+1) (by omega)
    rw[hx1]at hc1
    obtain⟨x2,hx2⟩:∃x,bs (at_+2)=x:=⟨_,rfl⟩
    have hxb2:0≤x2∧x2<256:=by rw[←hx2];exact HB.out _
    have hc2:=hc (at_+2) (by omega)
    rw[hx2]at hc2
    obtain⟨x3,hx3⟩:∃x,bs (at_+3)=x:=⟨_,rfl⟩
    have hxb3:0≤x3∧x3<256:=by rw[←hx3];exact HB.out _
    have hc3:=hc (at_+3) (by omega)
    rw[hx3]at hc3
    obtain⟨V,hV⟩:∃V,four9 x0 x1 x2 x3=V:=⟨_,rfl⟩
    have hst:stepM f rm reg L bs ⟨l,C,at_⟩ 76=some ⟨l,V,at_+4⟩:=by
     unfold stepM
     rw[show needF f.size 76=4 from rfl,if_neg (by show ¬L<at_+4;omega)]
     show some (Mst.mk (l++[]) (four9 (bs at_) (bs (at_+1)) (bs (at_+2)) (bs (at_+3))) (at_+4))=_;rw[List.append_nil];rw[←hV,←hx0,←hx1,←hx2,←hx3];rfl
    have HST:=Lib.hid hst
    have hd1:decide ((L:Int)<(at_:Int)+4)=false:=decide_eq_false (by omega)
    clear hst
    have hi0:(at_:Int)<(L:Int):=by omega
    have hsl:=fun u=>slice_rest ad L cap at_ (by omega) hl u
    have hfo:=fun(u:World) (hu:∃n,u=wr.drewN n)=>rfour_any x0 x1 x2 x3 (L-at_) (cap-at_) (ad.add at_) hxb0 hxb1 hxb2 hxb3 (by omega) u (by obtain⟨n,rfl⟩:=hu;rw[add_add'];exact hc0) (by obtain⟨n,rfl⟩:=hu;rw[add_add'];exact hc1) (by obtain⟨n,rfl⟩:=hu;rw[add_add'];exact hc2) (by obtain⟨n,rfl⟩:=hu;rw[add_add'];exact hc3)
    rw[hV]at hfo
    have HFO:=Lib.hid (hfo wr ⟨0,rfl⟩)
    clear hc hx0 hx1 hx2 hx3 hV hfo hc0 hc1 hc2 hc3
    go_wp2_with (go_at_call 51;(with_reducible refine(HFO.out).mono ?_);rintro e w' ⟨rfl,nq,rfl⟩)
    go_roundw
    case rel=>exact⟨k+1,⟨l,V,at_+4⟩,by omega,by go_num,by rw[HRL.out,HZ.out];exact HST.out,by go_num,by show at_+4≤L;omega,by simp;omega,(HMI.out.dr nq).setC V⟩
    case measure=>simp[intOf];omega
   by_cases z66:s[k]=66
   ·have hzi:(s[k].toNat:Int)=66:=by rw[z66];rfl
    have HZ:=Lib.hid z66
    clear z66
    by_cases hsh:L<at_+1
    ·have hst:stepM f rm reg L bs ⟨l,C,at_⟩ 66=none:=by
      unfold stepM
      rw[show needF f.size 66=1 from rfl,if_pos hsh]
     have HF:=Lib.hid (show madeF i f rm reg L bs k0=(zeroI,21)by unfold madeF;rw[runM_none f rm reg L bs f.how k hkl _ _ HRUN.out (by rw[HGET.out,HZ.out];exact hst)])
     have hd1:decide ((L:Int)<(at_:Int)+1)=true:=decide_eq_true (by omega)
     have hblk:wr.heap[w.heap.size+1+1+1]?=some (.cells ZL.toArray 34 (0,0)):=by rw[HMI.out.below.block _ (by omega)];unfold madeW;exact heap_top _ _ _ (by simp)
     have hth:wr.there (w.heap.size+1+1+1) 0 18:=there_block hblk 0 18 (by decide)
     have hinf:(Tryz.prog.info? 34).map (·.size)=some 18:=by kernel_rfl
     have hload:=load_range (P:=Tryz.prog) (cs:=ZL) 34 _ Tryz.underlying34 rfl hinf (World.rangeAt_setCells_same wr (w.heap.size+1+1+1) 0 ZL hth)
     have hbl:=below_setCells (show w.heap.size≤w.heap.size+1+1+1 by omega) ZL 0 wr HMI.out.all
     obtain⟨W,hW⟩:∃W,wr.setCells (w.heap.size+1+1+1) 0 ZL=W:=⟨_,rfl⟩
     rw[hW]at hload hbl
     have hone:(ZL.toArray:Array Value).all (·.oneCell')=true:=by kernel_rfl
     have HONE:=Lib.hid hone
     have HTH:=Lib.hid hth
     have HINF:=Lib.hid hinf
     have HLOAD:=Lib.hid hload
     have HBL:=Lib.hid hbl
     have HW:=Lib.hid hW
     clear hone hst hsh hblk hth hinf hload hbl hW
     go_wp2_with (refine wpList_store_mid rfl 34 (.tmp 12) (.tmp 50) rfl (w.heap.size+1+1+1) 0 ZL.toArray rfl rfl HTH.out HINF.out HONE.out ?_;rw[show wr.setCells (w.heap.size+1+1+1) 0 (ZL.toArray:Array Value).toList=W from HW.out];clear HW HTH HONE)
     have hld:=HLOAD.out
     refine bodyPost_ret (v:=.tuple #[.agg ZL.toArray,.int .i64 21]) (results_cell_tmp (P:=Tryz.prog) (a:=12) (b:=13) rfl rfl rfl hld) rfl ⟨by rw[HF.out];rfl,HBL.out⟩
    obtain⟨ad,rfl,hl,hc⟩:=at_slice (HS.out.below HMI.out.all) (show 0<L by omega)
    obtain⟨x0,hx0⟩:∃x,bs (at_+0)=x:=⟨_,rfl⟩
    have hxb0:0≤x0∧x0<256:=by rw[←hx0];exact HB.out _
    have hc0:=hc (at_+0) (by omega)
    rw[hx0]at hc0
    rw[Nat.add_zero]at hx0 hc0
    obtain⟨V,hV⟩:∃V,sx9 x0=V:=⟨_,rfl⟩
    have hst:stepM f rm reg L bs ⟨l,C,at_⟩ 66=some ⟨l,V,at_+1⟩:=by
     unfold stepM
     rw[show needF f.size 66=1 from rfl,if_neg (by show ¬L<at_+1;omega)]
     show some (Mst.mk (l++[]) (sx9 (bs at_)) (at_+1))=_;rw[List.append_nil];rw[←hV,←hx0]
    have HST:=Lib.hid hst
    have hd1:decide ((L:Int)<(at_:Int)+1)=false:=decide_eq_false (by omega)
    clear hst
    have hi0:(at_:Int)<(L:Int):=by omega
    have hsx:=fun u=>rsx_any x0 hxb0.1 hxb0.2 u
    rw[hV]at hsx
    have HSX:=Lib.hid hsx
    clear hc hx0 hV hsx
    go_wp2_with (go_at_call 50;(with_reducible refine(HSX.out _).mono ?_);rintro e w' ⟨rfl,rfl⟩)
    go_roundw
    case rel=>exact⟨k+1,⟨l,V,at_+1⟩,by omega,by go_num,by rw[HRL.out,HZ.out];exact HST.out,by go_num,by show at_+1≤L;omega,by simp;omega,HMI.out.setC V⟩
    case measure=>simp[intOf];omega
   by_cases z73:s[k]=73
   ·have hzi:(s[k].toNat:Int)=73:=by rw[z73];rfl
    have HZ:=Lib.hid z73
    clear z73
    by_cases hsz:f.size=4
    ·have es:(f.size==4)=true:=by simpa using hsz
     by_cases hsh:L<at_+4
     ·have hst:stepM f rm reg L bs ⟨l,C,at_⟩ 73=none:=by
       unfold stepM
       rw[show needF f.size 73=4 by unfold needF;rw[if_pos rfl,if_pos hsz],if_pos hsh]
      have HF:=Lib.hid (show madeF i f rm reg L bs k0=(zeroI,21)by unfold madeF;rw[runM_none f rm reg L bs f.how k hkl _ _ HRUN.out (by rw[HGET.out,HZ.out];exact hst)])
      have hd1:decide ((L:Int)<(at_:Int)+4)=true:=decide_eq_true (by omega)
      have hblk:wr.heap[w.heap.size+1+1+1]?=some (.cells ZL.toArray 34 (0,0)):=by rw[HMI.out.below.block _ (by omega)];unfold madeW;exact heap_top _ _ _ (by simp)
      have hth:wr.there (w.heap.size+1+1+1) 0 18:=there_block hblk 0 18 (by decide)
      have hinf:(Tryz.prog.info? 34).map (·.size)=some 18:=by kernel_rfl
      have hload:=load_range (P:=Tryz.prog) (cs:=ZL) 34 _ Tryz.underlying34 rfl hinf (World.rangeAt_setCells_same wr (w.heap.size+1+1+1) 0 ZL hth)
      have hbl:=below_setCells (show w.heap.size≤w.heap.size+1+1+1 by omega) ZL 0 wr HMI.out.all
      obtain⟨W,hW⟩:∃W,wr.setCells (w.heap.size+1+1+1) 0 ZL=W:=⟨_,rfl⟩
      rw[hW]at hload hbl
      have hone:(ZL.toArray:Array Value).all (·.oneCell')=true:=by kernel_rfl
      have HONE:=Lib.hid hone
      have HTH:=Lib.hid hth
      have HINF:=Lib.hid hinf
      have HLOAD:=Lib.hid hload
      have HBL:=Lib.hid hbl
      have HW:=Lib.hid hW
      clear hone hst hsh hblk hth hinf hload hbl hW
      go_wp2_with (refine wpList_store_mid rfl 34 (.tmp 12) (.tmp 50) rfl (w.heap.size+1+1+1) 0 ZL.toArray rfl rfl HTH.out HINF.out HONE.out ?_;rw[show wr.setCells (w.heap.size+1+1+1) 0 (ZL.toArray:Array Value).toList=W from HW.out];clear HW HTH HONE)
      have hld:=HLOAD.out
      refine bodyPost_ret (v:=.tuple #[.agg ZL.toArray,.int .i64 21]) (results_cell_tmp (P:=Tryz.prog) (a:=12) (b:=13) rfl rfl rfl hld) rfl ⟨by rw[HF.out];rfl,HBL.out⟩
     obtain⟨ad,rfl,hl,hc⟩:=at_slice (HS.out.below HMI.out.all) (show 0<L by omega)
     obtain⟨x0,hx0⟩:∃x,bs (at_+0)=x:=⟨_,rfl⟩
     have hxb0:0≤x0∧x0<256:=by rw[←hx0];exact HB.out _
     have hc0:=hc (at_+0) (by omega)
     rw[hx0]at hc0
     obtain⟨x1,hx1⟩:∃x,bs (at_+1)=x:=⟨_,rfl⟩
     have hxb1:0≤x1∧x1<256:=by rw[←hx1];exact HB.out _
     have hc1:=hc (at_+1) (by omega)
     rw[hx1]at hc1
     obtain⟨x2,hx2⟩:∃x,bs (at_+2)=x:=⟨_,rfl⟩
     have hxb2:0≤x2∧x2<256:=by rw[←hx2];exact HB.out _
     have hc2:=hc (at_+2) (by omega)
     rw[hx2]at hc2
     obtain⟨x3,hx3⟩:∃x,bs (at_+3)=x:=⟨_,rfl⟩
     have hxb3:0≤x3∧x3<256:=by rw[←hx3];exact HB.out _
     have hc3:=hc (at_+3) (by omega)
     rw[hx3]at hc3
     obtain⟨V,hV⟩:∃V,four9 x0 x1 x2 x3=V:=⟨_,rfl⟩
     have hst:stepM f rm reg L bs ⟨l,C,at_⟩ 73=some ⟨l++[numO V],C,at_+4⟩:=by
      unfold stepM
      rw[show needF f.size 73=4 by unfold needF;rw[if_pos rfl,if_pos hsz],if_neg (by show ¬L<at_+4;omega)]
      rw[←hV,←hx0,←hx1,←hx2,←hx3];rfl
     have HST:=Lib.hid hst
     have hd1:decide ((L:Int)<(at_:Int)+4)=false:=decide_eq_false (by omega)
     clear hst
     have HQ:=fun u=>rnumber_any V u
     unfold opV numO at HQ
     have HQ:=Lib.hid HQ
     have hi0:(at_:Int)<(L:Int):=by omega
     have hsl:=fun u=>slice_rest ad L cap at_ (by omega) hl u
     have hfo:=fun(u:World) (hu:∃n,u=wr.drewN n)=>rfour_any x0 x1 x2 x3 (L-at_) (cap-at_) (ad.add at_) hxb0 hxb1 hxb2 hxb3 (by omega) u (by obtain⟨n,rfl⟩:=hu;rw[add_add'];exact hc0) (by obtain⟨n,rfl⟩:=hu;rw[add_add'];exact hc1) (by obtain⟨n,rfl⟩:=hu;rw[add_add'];exact hc2) (by obtain⟨n,rfl⟩:=hu;rw[add_add'];exact hc3)
     rw[hV]at hfo
     have HFO:=Lib.hid (hfo wr ⟨0,rfl⟩)
     clear hc hx0 hx1 hx2 hx3 hV hfo hc0 hc1 hc2 hc3
     clear hsz
     go_wp2_with (first|(go_at_call 51;(with_reducible refine(HFO.out).mono ?_);rintro e w' ⟨rfl,nq,rfl⟩)|(go_at_call 54;(with_reducible refine(HQ.out _).mono ?_);rintro e u1 ⟨rfl,hb1⟩;have HB1:=Lib.hid (below_step (below_drN (Below.refl wr.heap.size wr) nq) hb1);clear hb1)|(at_builtin;go_loud (refine append_opd rfl (.tmp 197) (.tmp 200) rfl (w.heap.size+4) _ l rfl (HOWN.out.below (below_last HB1.out _)) _ ⟨4,0,-1,-1,1,V⟩ rfl (by simp[go_sem]) (by simp[go_sem]) (by simp[go_sem]) (by simp[go_sem]) (by simp[go_sem]) (by simp[go_sem]) (by omega) (by first|(simp;omega)|(have:=HB1.out.size;simp;omega)) ?_);intro v' u2 ho hkeep;have HO:=Lib.hid ho;have HK:=Lib.hid hkeep;clear ho hkeep))
     go_roundw
     case rel=>exact⟨k+1,⟨l++[numO V],C,at_+4⟩,by omega,by go_num,by rw[HRL.out,HZ.out];exact HST.out,by go_num,by show at_+4≤L;omega,by simp;omega,HMI.out.push (below_last HB1.out _) HO.out HK.out⟩
     case measure=>simp[intOf];omega
    ·have es:(f.size==4)=false:=by simpa using hsz
     by_cases hsh:L<at_+1
     ·have hst:stepM f rm reg L bs ⟨l,C,at_⟩ 73=none:=by
       unfold stepM
       rw[show needF f.size 73=1 by unfold needF;rw[if_pos rfl,if_neg hsz],if_pos hsh]
      have HF:=Lib.hid (show madeF i f rm reg L bs k0=(zeroI,21)by unfold madeF;rw[runM_none f rm reg L bs f.how k hkl _ _ HRUN.out (by rw[HGET.out,HZ.out];exact hst)])
      have hd1:decide ((L:Int)<(at_:Int)+1)=true:=decide_eq_true (by omega)
      have hblk:wr.heap[w.heap.size+1+1+1]?=some (.cells ZL.toArray 34 (0,0)):=by rw[HMI.out.below.block _ (by omega)];unfold madeW;exact heap_top _ _ _ (by simp)
      have hth:wr.there (w.heap.size+1+1+1) 0 18:=there_block hblk 0 18 (by decide)
      have hinf:(Tryz.prog.info? 34).map (·.size)=some 18:=by kernel_rfl
      have hload:=load_range (P:=Tryz.prog) (cs:=ZL) 34 _ Tryz.underlying34 rfl hinf (World.rangeAt_setCells_same wr (w.heap.size+1+1+1) 0 ZL hth)
      have hbl:=below_setCells (show w.heap.size≤w.heap.size+1+1+1 by omega) ZL 0 wr HMI.out.all
      obtain⟨W,hW⟩:∃W,wr.setCells (w.heap.size+1+1+1) 0 ZL=W:=⟨_,rfl⟩
      rw[hW]at hload hbl
      have hone:(ZL.toArray:Array Value).all (·.oneCell')=true:=by kernel_rfl
      have HONE:=Lib.hid hone
      have HTH:=Lib.hid hth
      have HINF:=Lib.hid hinf
      have HLOAD:=Lib.hid hload
      have HBL:=Lib.hid hbl
      have HW:=Lib.hid hW
      clear hone hst hsh hblk hth hinf hload hbl hW
      go_wp2_with (refine wpList_store_mid rfl 34 (.tmp 12) (.tmp 50) rfl (w.heap.size+1+1+1) 0 ZL.toArray rfl rfl HTH.out HINF.out HONE.out ?_;rw[show wr.setCells (w.heap.size+1+1+1) 0 (ZL.toArray:Array Value).toList=W from HW.out];clear HW HTH HONE)
      have hld:=HLOAD.out
      refine bodyPost_ret (v:=.tuple #[.agg ZL.toArray,.int .i64 21]) (results_cell_tmp (P:=Tryz.prog) (a:=12) (b:=13) rfl rfl rfl hld) rfl ⟨by rw[HF.out];rfl,HBL.out⟩
     obtain⟨ad,rfl,hl,hc⟩:=at_slice (HS.out.below HMI.out.all) (show 0<L by omega)
     obtain⟨x0,hx0⟩:∃x,bs (at_+0)=x:=⟨_,rfl⟩
     have hxb0:0≤x0∧x0<256:=by rw[←hx0];exact HB.out _
     have hc0:=hc (at_+0) (by omega)
     rw[hx0]at hc0
     rw[Nat.add_zero]at hx0 hc0
     obtain⟨V,hV⟩:∃V,x0=V:=⟨_,rfl⟩
     have hst:stepM f rm reg L bs ⟨l,C,at_⟩ 73=some ⟨l++[numO V],C,at_+1⟩:=by
      unfold stepM
      rw[show needF f.size 73=1 by unfold needF;rw[if_pos rfl,if_neg hsz],if_neg (by show ¬L<at_+1;omega)]
      rw[←hV,←hx0];rfl
     have HST:=Lib.hid hst
     have hd1:decide ((L:Int)<(at_:Int)+1)=false:=decide_eq_false (by omega)
     clear hst
     have HQ:=fun u=>rnumber_any V u
     unfold opV numO at HQ
     have HQ:=Lib.hid HQ
     have hi0:(at_:Int)<(L:Int):=by omega
     rw[hV]at hc0 hxb0
     clear hc hx0 hV hsz
     go_wp2_with (first|(go_at_call 50;(with_reducible refine(rsx_any V hxb0.1 hxb0.2 _).mono ?_);rintro e w' ⟨rfl,rfl⟩)|(go_at_call 54;(with_reducible refine(HQ.out _).mono ?_);rintro e u1 ⟨rfl,hb1⟩;have HB1:=Lib.hid (below_step (Below.refl _ _) hb1);clear hb1)|(at_builtin;go_loud (refine append_opd rfl (.tmp 197) (.tmp 200) rfl (w.heap.size+4) _ l rfl (HOWN.out.below (below_last HB1.out _)) _ ⟨4,0,-1,-1,1,V⟩ rfl (by simp[go_sem]) (by simp[go_sem]) (by simp[go_sem]) (by simp[go_sem]) (by simp[go_sem]) (by simp[go_sem]) (by omega) (by first|(simp;omega)|(have:=HB1.out.size;simp;omega)) ?_);intro v' u2 ho hkeep;have HO:=Lib.hid ho;have HK:=Lib.hid hkeep;clear ho hkeep))
     go_roundw
     case rel=>exact⟨k+1,⟨l++[numO V],C,at_+1⟩,by omega,by go_num,by rw[HRL.out,HZ.out];exact HST.out,by go_num,by show at_+1≤L;omega,by simp;omega,HMI.out.push (below_last HB1.out _) HO.out HK.out⟩
     case measure=>simp[intOf];omega
   by_cases z98:s[k]=98
   ·have hzi:(s[k].toNat:Int)=98:=by rw[z98];rfl
    have HZ:=Lib.hid z98
    clear z98
    by_cases hsh:L<at_+1
    ·have hst:stepM f rm reg L bs ⟨l,C,at_⟩ 98=none:=by
      unfold stepM
      rw[show needF f.size 98=1 from rfl,if_pos hsh]
     have HF:=Lib.hid (show madeF i f rm reg L bs k0=(zeroI,21)by unfold madeF;rw[runM_none f rm reg L bs f.how k hkl _ _ HRUN.out (by rw[HGET.out,HZ.out];exact hst)])
     have hd1:decide ((L:Int)<(at_:Int)+1)=true:=decide_eq_true (by omega)
     have hblk:wr.heap[w.heap.size+1+1+1]?=some (.cells ZL.toArray 34 (0,0)):=by rw[HMI.out.below.block _ (by omega)];unfold madeW;exact heap_top _ _ _ (by simp)
     have hth:wr.there (w.heap.size+1+1+1) 0 18:=there_block hblk 0 18 (by decide)
     have hinf:(Tryz.prog.info? 34).map (·.size)=some 18:=by kernel_rfl
     have hload:=load_range (P:=Tryz.prog) (cs:=ZL) 34 _ Tryz.underlying34 rfl hinf (World.rangeAt_setCells_same wr (w.heap.size+1+1+1) 0 ZL hth)
     have hbl:=below_setCells (show w.heap.size≤w.heap.size+1+1+1 by omega) ZL 0 wr HMI.out.all
     obtain⟨W,hW⟩:∃W,wr.setCells (w.heap.size+1+1+1) 0 ZL=W:=⟨_,rfl⟩
     rw[hW]at hload hbl
     have hone:(ZL.toArray:Array Value).all (·.oneCell')=true:=by kernel_rfl
     have HONE:=Lib.hid hone
     have HTH:=Lib.hid hth
     have HINF:=Lib.hid hinf
     have HLOAD:=Lib.hid hload
     have HBL:=Lib.hid hbl
     have HW:=Lib.hid hW
     clear hone hst hsh hblk hth hinf hload hbl hW
     go_wp2_with (refine wpList_store_mid rfl 34 (.tmp 12) (.tmp 50) rfl (w.heap.size+1+1+1) 0 ZL.toArray rfl rfl HTH.out HINF.out HONE.out ?_;rw[show wr.setCells (w.heap.size+1+1+1) 0 (ZL.toArray:Array Value).toList=W from HW.out];clear HW HTH HONE)
     have hld:=HLOAD.out
     refine bodyPost_ret (v:=.tuple #[.agg ZL.toArray,.int .i64 21]) (results_cell_tmp (P:=Tryz.prog) (a:=12) (b:=13) rfl rfl rfl hld) rfl ⟨by rw[HF.out];rfl,HBL.out⟩
    obtain⟨ad,rfl,hl,hc⟩:=at_slice (HS.out.below HMI.out.all) (show 0<L by omega)
    obtain⟨x0,hx0⟩:∃x,bs (at_+0)=x:=⟨_,rfl⟩
    have hxb0:0≤x0∧x0<256:=by rw[←hx0];exact HB.out _
    have hc0:=hc (at_+0) (by omega)
    rw[hx0]at hc0
    rw[Nat.add_zero]at hx0 hc0
    obtain⟨V,hV⟩:∃V,sx9 x0=V:=⟨_,rfl⟩
    have hst:stepM f rm reg L bs ⟨l,C,at_⟩ 98=some ⟨l++[numO V],C,at_+1⟩:=by
     unfold stepM
     rw[show needF f.size 98=1 from rfl,if_neg (by show ¬L<at_+1;omega)]
     rw[←hV,←hx0];rfl
    have HST:=Lib.hid hst
    have hd1:decide ((L:Int)<(at_:Int)+1)=false:=decide_eq_false (by omega)
    clear hst
    have HQ:=fun u=>rnumber_any V u
    unfold opV numO at HQ
    have HQ:=Lib.hid HQ
    have hi0:(at_:Int)<(L:Int):=by omega
    have hsx:=fun u=>rsx_any x0 hxb0.1 hxb0.2 u
    rw[hV]at hsx
    have HSX:=Lib.hid hsx
    clear hc hx0 hV hsx
    go_wp2_with (first|(go_at_call 50;(with_reducible refine(HSX.out _).mono ?_);rintro e w' ⟨rfl,rfl⟩)|(go_at_call 54;(with_reducible refine(HQ.out _).mono ?_);rintro e u1 ⟨rfl,hb1⟩;have HB1:=Lib.hid (below_step (Below.refl _ _) hb1);clear hb1)|(at_builtin;go_loud (refine append_opd rfl (.tmp 197) (.tmp 200) rfl (w.heap.size+4) _ l rfl (HOWN.out.below (below_last HB1.out _)) _ ⟨4,0,-1,-1,1,V⟩ rfl (by simp[go_sem]) (by simp[go_sem]) (by simp[go_sem]) (by simp[go_sem]) (by simp[go_sem]) (by simp[go_sem]) (by omega) (by first|(simp;omega)|(have:=HB1.out.size;simp;omega)) ?_);intro v' u2 ho hkeep;have HO:=Lib.hid ho;have HK:=Lib.hid hkeep;clear ho hkeep))
    go_roundw
    case rel=>exact⟨k+1,⟨l++[numO V],C,at_+1⟩,by omega,by go_num,by rw[HRL.out,HZ.out];exact HST.out,by go_num,by show at_+1≤L;omega,by simp;omega,HMI.out.push (below_last HB1.out _) HO.out HK.out⟩
    case measure=>simp[intOf];omega
   exfalso
   have hin:=HZL.out s[k] (by rw[←HGET.out];exact List.getElem_mem hkl)
   rcases hin with h|h|h|h|h|h
   ·exact z71 h
   ·exact z69 h
   ·exact z76 h
   ·exact z66 h
   ·exact z73 h
   ·exact z98 h
  ·have hke:k=s.size:=by omega
   have HF:=Lib.hid (show runM f rm reg L bs f.how ⟨[],i.c,k0⟩=some ⟨l,C,at_⟩by rw[←HRUN.out,hke,HN.out,List.take_length])
   have hE:EX w { i with c:=C } wr:=⟨by rw[HMI.out.below.block _ (by omega)];unfold madeW;rw[heap_low _ _ _ (by simp;omega),heap_low _ _ _ (by simp;omega),heap_low _ _ _ (by simp)];exact heap_top _ _ _ rfl,by rw[HMI.out.below.block _ (by omega)];unfold madeW;exact heap_top _ _ _ (by simp),HMI.out.all⟩
   have HEX:=Lib.hid hE
   obtain⟨c17,z17⟩:=hE.c17
   have hd0:decide ((k:Int)<(s.size:Int))=false:=decide_eq_false (by omega)
   have hd0':decide (k<s.size)=false:=decide_eq_false (by omega)
   clear hE hke f2 f4 r0 r1 r2 r3 r4 r5 hlt hkN
   rcases l with _|⟨oa,_|⟨ob,l⟩⟩
   obtain⟨a14,c14,rfl⟩:=own_nil HOWN.out
   obtain⟨J,hJ⟩:∃J:Ins,{ i with c:=C,len:=at_ }=J:=⟨_,rfl⟩
   have HJ:=Lib.hid hJ
   clear hJ
   rotate_left
   obtain⟨G,c14,rfl,hG,hg⟩:=own_cons HOWN.out
   have HG0:=Lib.hid (range_first hg)
   obtain⟨J,hJ⟩:∃J:Ins,{ i with a:=oa,c:=C,len:=at_ }=J:=⟨_,rfl⟩
   have HJ:=Lib.hid hJ
   clear hg hJ
   rotate_left
   obtain⟨G,c14,rfl,hG,hg⟩:=own_cons HOWN.out
   have HG0:=Lib.hid (range_first hg)
   have HG1:=Lib.hid (range_next hg)
   obtain⟨n,hn⟩:∃n,(ob :: l).length+1=n:=⟨_,rfl⟩
   have hn2:1<n:=by rw[←hn];simp
   rw[hn]
   have t0:decide ((0:Int)<(n:Int))=true:=decide_eq_true (by omega)
   have t0':decide (0<n)=true:=decide_eq_true (by omega)
   have t1:decide ((1:Int)<(n:Int))=true:=decide_eq_true (by omega)
   have t1':decide (1<n)=true:=decide_eq_true (by omega)
   have u0:(0:Int)<(n:Int):=by omega
   have u1:(1:Int)<(n:Int):=by omega
   obtain⟨J,hJ⟩:∃J:Ins,{ i with a:=oa,b:=ob,c:=C,len:=at_ }=J:=⟨_,rfl⟩
   have HJ:=Lib.hid hJ
   clear hg hJ hn
   all_goals
    go_wp2_with (first|(refine wpList_load_mid rfl 32 (.tmp 206) rfl G 0 rfl (opL oa) _ HG0.out Tryz.underlying32 rfl info_opd1 ?_)|(refine EX.st (J:={ i with c:=C }) rfl (.tmp 208) (.tmp 207) rfl 3 rfl oa rfl _ (setL_a _ _) (by decide) ?_ ?_;exact HEX.out;intro Y1 hE1 hk1;obtain⟨c17',z17'⟩:=hE1.c17;have HEX:=Lib.hid hE1;try have HG1:=Lib.hid (hk1 _ _ _ (by omega) HG1.out);clear hE1 hk1)|(refine wpList_load_mid rfl 32 (.tmp 213) rfl G 6 rfl (opL ob) _ HG1.out Tryz.underlying32 rfl info_opd1 ?_)|(refine EX.st (J:={ i with a:=oa,c:=C }) rfl (.tmp 215) (.tmp 214) rfl 9 rfl ob rfl _ (setL_b _ _) (by decide) ?_ ?_;exact HEX.out;intro Y2 hE2 hk2;obtain⟨c17',z17'⟩:=hE2.c17;have HEX:=Lib.hid hE2;clear hE2 hk2)|(refine wpList_load_mid rfl 34 (.tmp 6) rfl w.heap.size 0 rfl (insL J) _ (by rw[←HJ.out];exact HEX.out.ld _) Tryz.underlying34 rfl info_ins ?_)|(refine store_ins rfl (.tmp 12) (.tmp 218) rfl (w.heap.size+1+1+1) rfl J rfl (HEX.out.th _) ?_;intro Y hY hl;have HY:=Lib.hid hY;have HL:=Lib.hid hl;clear hY hl))
    refine bodyPost_ret (results_cell_tmp rfl rfl rfl HL.out) rfl ⟨by unfold madeF;rw[HF.out,←HJ.out]<;>rfl,?_⟩
    rw[HY.out]
    exact below_setCells (by omega) _ _ _ (HEX.out.bl _)
end Go.Proofs.YtmdncgfheeijaaaGreat
