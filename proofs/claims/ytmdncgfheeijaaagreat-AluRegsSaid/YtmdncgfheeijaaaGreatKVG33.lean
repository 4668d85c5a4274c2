import Derived.Test.YtmdncgfheeijaaaGreatKVG31
import Derived.Test.YtmdncgfheeijaaaGreatKVG32
namespace Go.Proofs.YtmdncgfheeijaaaGreat
open Go.ChangeShapes Go.WideShapes Go.ChangeAt Go.RowKit
set_option maxRecDepth 100000
theorem move_any15{w1:World}{F0:Nat→Prop}{D b:Nat}{g:Int→Int}{cc dd:Sg}{t:Sta}{I:Ins}(ht:StaOk t)(hA:0≤I.a.disp∧I.a.disp<4294967296)(hB:0≤I.b.disp∧I.b.disp<4294967296)(hop:I.op=18∨I.op=19∨I.op=20∨I.op=21∨I.op=22∨I.op=35∨I.op=36∨I.op=37∨I.op=38∨I.op=50)(k0:-9223372036854775808≤I.cond)(k1:I.cond≤9223372036854775807)(w:World)(hD:DM w1 F0 D b g cc dd t I w):
  Calls Tryz.prog 75 #[.pointer (some ⟨D,0,none⟩)] w fun e w'=>e=endO (moveZ g dd t I).e∧DM w1 F0 D b (moveZ g dd t I).g cc dd (moveZ g dd t I).t I w':=by
 rcases hop with h|h|h|h|h|h|h|h|h|h
 ·exact move_18 ht hA hB h w hD
 ·exact move_19 ht hA hB h w hD
 ·exact move_20 ht hA hB h w hD
 ·exact move_21 ht hA hB h w hD
 ·exact move_22 ht hA hB h w hD
 ·exact move_35 ht hA hB h k0 k1 w hD
 ·exact move_36 ht hA hB h k0 k1 w hD
 ·exact move_37 ht hA hB h w hD
 ·exact move_38 ht hA hB h w hD
 ·exact move_50 ht hA hB h w hD
theorem markZ_eg(g:Int→Int)(t:Sta)(op:Int):(markZ g t op).e=0∧(markZ g t op).g=g:=by
 unfold markZ
 repeat' split
 all_goals exact⟨rfl,rfl⟩
set_option maxHeartbeats 8000000
theorem reck_sum{w1:World}{F0:Nat→Prop}{D b:Nat}{g:Int→Int}{cc dd:Sg}{t:Sta}{I:Ins}(ht:StaOk t)(hA:0≤I.a.disp∧I.a.disp<4294967296)(hB:0≤I.b.disp∧I.b.disp<4294967296)(hop:I.op=1∨I.op=3∨I.op=6∨I.op=4∨I.op=8)(w:World)(hD:DM w1 F0 D b g cc dd t I w):
  Calls Tryz.prog 41 #[.pointer (some ⟨D,0,none⟩)] w fun e w'=>e=endO (reckZ g dd t I).e∧DM w1 F0 D b (reckZ g dd t I).g cc dd (reckZ g dd t I).t I w':=by
 have HS:=Lib.hid (fun u (h:DM w1 F0 D b g cc dd t I u)=>sum_any15 ht hA hB hop u h)
 have HM:=Lib.hid (show reckZ g dd t I=sumZ g dd t I by unfold reckZ;rw[if_pos hop])
 obtain⟨M,hM⟩:∃M,sumZ g dd t I=M:=⟨_,rfl⟩
 rw[hM]at HS HM
 have HD:=Lib.hid hD
 clear hM ht hA hB hD
 rcases hop with h|h|h|h|h
 all_goals
  have c0:=HD.out.op
  rw[h]at c0
  clear h
  go_enter Tryz.func41,Tryz.ntmps41
  go_wp2_with fail
  ((with_reducible refine(HS.out _ HD.out).mono ?_);rintro e w2 ⟨rfl,hd⟩)
  have HD1:=Lib.hid hd
  clear hd c0
  by_cases h:M.e=0
  ·rw[endO_ok h]
   have HE:=Lib.hid (endO_ok h)
   clear h
   go_wp2_with fail
   exact bodyPost_end (v:=.tuple #[]) (by simp[results,Tryz.results41]) rfl ⟨by rw[HM.out];exact HE.out.symm,by rw[HM.out];exact HD1.out⟩
  ·rw[endO_bad h]
   exact⟨rfl,by rw[HM.out];exact(endO_bad h).symm,by rw[HM.out];exact HD1.out⟩
theorem reck_logic{w1:World}{F0:Nat→Prop}{D b:Nat}{g:Int→Int}{cc dd:Sg}{t:Sta}{I:Ins}(ht:StaOk t)(hA:0≤I.a.disp∧I.a.disp<4294967296)(hB:0≤I.b.disp∧I.b.disp<4294967296)(hop:I.op=5∨I.op=2∨I.op=7∨I.op=9)(w:World)(hD:DM w1 F0 D b g cc dd t I w):
  Calls Tryz.prog 41 #[.pointer (some ⟨D,0,none⟩)] w fun e w'=>e=endO (reckZ g dd t I).e∧DM w1 F0 D b (reckZ g dd t I).g cc dd (reckZ g dd t I).t I w':=by
 have HS:=Lib.hid (fun u (h:DM w1 F0 D b g cc dd t I u)=>logic_any15 ht hA hB hop u h)
 have HM:=Lib.hid (show reckZ g dd t I=logicZ g dd t I by unfold reckZ;rw[if_neg (by omega),if_pos hop])
 obtain⟨M,hM⟩:∃M,logicZ g dd t I=M:=⟨_,rfl⟩
 rw[hM]at HS HM
 have HD:=Lib.hid hD
 clear hM ht hA hB hD
 rcases hop with h|h|h|h
 all_goals
  have c0:=HD.out.op
  rw[h]at c0
  clear h
  go_enter Tryz.func41,Tryz.ntmps41
  go_wp2_with fail
  ((with_reducible refine(HS.out _ HD.out).mono ?_);rintro e w2 ⟨rfl,hd⟩)
  have HD1:=Lib.hid hd
  clear hd c0
  by_cases h:M.e=0
  ·rw[endO_ok h]
   have HE:=Lib.hid (endO_ok h)
   clear h
   go_wp2_with fail
   exact bodyPost_end (v:=.tuple #[]) (by simp[results,Tryz.results41]) rfl ⟨by rw[HM.out];exact HE.out.symm,by rw[HM.out];exact HD1.out⟩
  ·rw[endO_bad h]
   exact⟨rfl,by rw[HM.out];exact(endO_bad h).symm,by rw[HM.out];exact HD1.out⟩
theorem reck_product{w1:World}{F0:Nat→Prop}{D b:Nat}{g:Int→Int}{cc dd:Sg}{t:Sta}{I:Ins}(ht:StaOk t)(hA:0≤I.a.disp∧I.a.disp<4294967296)(_hB:0≤I.b.disp∧I.b.disp<4294967296)(hop:I.op=12∨I.op=13)(w:World)(hD:DM w1 F0 D b g cc dd t I w):
  Calls Tryz.prog 41 #[.pointer (some ⟨D,0,none⟩)] w fun e w'=>e=endO (reckZ g dd t I).e∧DM w1 F0 D b (reckZ g dd t I).g cc dd (reckZ g dd t I).t I w':=by
 have HS:=Lib.hid (fun u (h:DM w1 F0 D b g cc dd t I u)=>product_any15 ht hA hop u h)
 have HM:=Lib.hid (show reckZ g dd t I=prodZ g dd t I by unfold reckZ;rw[if_neg (by omega),if_neg (by omega),if_neg (by omega),if_neg (by omega),if_neg (by omega),if_neg (by omega),if_pos hop])
 obtain⟨M,hM⟩:∃M,prodZ g dd t I=M:=⟨_,rfl⟩
 rw[hM]at HS HM
 have HD:=Lib.hid hD
 clear hM ht hA hD
 rcases hop with h|h
 all_goals
  have c0:=HD.out.op
  rw[h]at c0
  clear h
  go_enter Tryz.func41,Tryz.ntmps41
  go_wp2_with fail
  ((with_reducible refine(HS.out _ HD.out).mono ?_);rintro e w2 ⟨rfl,hd⟩)
  have HD1:=Lib.hid hd
  clear hd c0
  by_cases h:M.e=0
  ·rw[endO_ok h]
   have HE:=Lib.hid (endO_ok h)
   clear h
   go_wp2_with fail
   exact bodyPost_end (v:=.tuple #[]) (by simp[results,Tryz.results41]) rfl ⟨by rw[HM.out];exact HE.out.symm,by rw[HM.out];exact HD1.out⟩
  ·rw[endO_bad h]
   exact⟨rfl,by rw[HM.out];exact(endO_bad h).symm,by rw[HM.out];exact HD1.out⟩
theorem reck_quotient{w1:World}{F0:Nat→Prop}{D b:Nat}{g:Int→Int}{cc dd:Sg}{t:Sta}{I:Ins}(ht:StaOk t)(hA:0≤I.a.disp∧I.a.disp<4294967296)(_hB:0≤I.b.disp∧I.b.disp<4294967296)(hop:I.op=14∨I.op=15)(w:World)(hD:DM w1 F0 D b g cc dd t I w):
  Calls Tryz.prog 41 #[.pointer (some ⟨D,0,none⟩)] w fun e w'=>e=endO (reckZ g dd t I).e∧DM w1 F0 D b (reckZ g dd t I).g cc dd (reckZ g dd t I).t I w':=by
 have HS:=Lib.hid (fun u (h:DM w1 F0 D b g cc dd t I u)=>quotient_any15 ht hA hop u h)
 have HM:=Lib.hid (show reckZ g dd t I=quotZ g dd t I by unfold reckZ;rw[if_neg (by omega),if_neg (by omega),if_neg (by omega),if_neg (by omega),if_neg (by omega),if_neg (by omega),if_neg (by omega),if_pos hop])
 obtain⟨M,hM⟩:∃M,quotZ g dd t I=M:=⟨_,rfl⟩
 rw[hM]at HS HM
 have HD:=Lib.hid hD
 clear hM ht hA hD
 rcases hop with h|h
 all_goals
  have c0:=HD.out.op
  rw[h]at c0
  clear h
  go_enter Tryz.func41,Tryz.ntmps41
  go_wp2_with fail
  ((with_reducible refine(HS.out _ HD.out).mono ?_);rintro e w2 ⟨rfl,hd⟩)
  have HD1:=Lib.hid hd
  clear hd c0
  by_cases h:M.e=0
  ·rw[endO_ok h]
   have HE:=Lib.hid (endO_ok h)
   clear h
   go_wp2_with fail
   exact bodyPost_end (v:=.tuple #[]) (by simp[results,Tryz.results41]) rfl ⟨by rw[HM.out];exact HE.out.symm,by rw[HM.out];exact HD1.out⟩
  ·rw[endO_bad h]
   exact⟨rfl,by rw[HM.out];exact(endO_bad h).symm,by rw[HM.out];exact HD1.out⟩
theorem reck_times{w1:World}{F0:Nat→Prop}{D b:Nat}{g:Int→Int}{cc dd:Sg}{t:Sta}{I:Ins}(ht:StaOk t)(hA:0≤I.a.disp∧I.a.disp<4294967296)(hB:0≤I.b.disp∧I.b.disp<4294967296)(hop:I.op=25)(hC:0≤I.c∧I.c<4294967296)(w:World)(hD:DM w1 F0 D b g cc dd t I w):
  Calls Tryz.prog 41 #[.pointer (some ⟨D,0,none⟩)] w fun e w'=>e=endO (reckZ g dd t I).e∧DM w1 F0 D b (reckZ g dd t I).g cc dd (reckZ g dd t I).t I w':=by
 have HS:=Lib.hid (fun u (h:DM w1 F0 D b g cc dd t I u)=>times_any15 ht hA hB hC u h)
 have HM:=Lib.hid (show reckZ g dd t I=timesZ g dd t I by unfold reckZ;rw[if_neg (by omega),if_neg (by omega),if_neg (by omega),if_neg (by omega),if_neg (by omega),if_neg (by omega),if_neg (by omega),if_neg (by omega),if_pos hop])
 obtain⟨M,hM⟩:∃M,timesZ g dd t I=M:=⟨_,rfl⟩
 rw[hM]at HS HM
 have HD:=Lib.hid hD
 clear hM ht hA hB hD hC
 have h:=hop
 clear hop
 all_goals
  have c0:=HD.out.op
  rw[h]at c0
  clear h
  go_enter Tryz.func41,Tryz.ntmps41
  go_wp2_with fail
  ((with_reducible refine(HS.out _ HD.out).mono ?_);rintro e w2 ⟨rfl,hd⟩)
  have HD1:=Lib.hid hd
  clear hd c0
  by_cases h:M.e=0
  ·rw[endO_ok h]
   have HE:=Lib.hid (endO_ok h)
   clear h
   go_wp2_with fail
   exact bodyPost_end (v:=.tuple #[]) (by simp[results,Tryz.results41]) rfl ⟨by rw[HM.out];exact HE.out.symm,by rw[HM.out];exact HD1.out⟩
  ·rw[endO_bad h]
   exact⟨rfl,by rw[HM.out];exact(endO_bad h).symm,by rw[HM.out];exact HD1.out⟩
theorem reck_move{w1:World}{F0:Nat→Prop}{D b:Nat}{g:Int→Int}{cc dd:Sg}{t:Sta}{I:Ins}(ht:StaOk t)(hA:0≤I.a.disp∧I.a.disp<4294967296)(hB:0≤I.b.disp∧I.b.disp<4294967296)(hop:I.op=18∨I.op=19∨I.op=20∨I.op=21∨I.op=22∨I.op=35∨I.op=36∨I.op=37∨I.op=38∨I.op=50)(k0:-9223372036854775808≤I.cond)(k1:I.cond≤9223372036854775807)(w:World)(hD:DM w1 F0 D b g cc dd t I w):
  Calls Tryz.prog 41 #[.pointer (some ⟨D,0,none⟩)] w fun e w'=>e=endO (reckZ g dd t I).e∧DM w1 F0 D b (reckZ g dd t I).g cc dd (reckZ g dd t I).t I w':=by
 have HS:=Lib.hid (fun u (h:DM w1 F0 D b g cc dd t I u)=>move_any15 ht hA hB hop k0 k1 u h)
 have HM:=Lib.hid (show reckZ g dd t I=moveZ g dd t I by unfold reckZ;rw[if_neg (by omega),if_neg (by omega),if_neg (by omega),if_neg (by omega),if_neg (by omega),if_neg (by omega),if_neg (by omega),if_neg (by omega),if_neg (by omega),if_neg (by omega),if_neg (by omega)])
 obtain⟨M,hM⟩:∃M,moveZ g dd t I=M:=⟨_,rfl⟩
 rw[hM]at HS HM
 have HD:=Lib.hid hD
 clear hM ht hA hB hD k0 k1
 rcases hop with h|h|h|h|h|h|h|h|h|h
 all_goals
  have c0:=HD.out.op
  rw[h]at c0
  clear h
  go_enter Tryz.func41,Tryz.ntmps41
  go_wp2_with fail
  ((with_reducible refine(HS.out _ HD.out).mono ?_);rintro e w2 ⟨rfl,hd⟩)
  have HD1:=Lib.hid hd
  clear hd c0
  by_cases h:M.e=0
  ·rw[endO_ok h]
   have HE:=Lib.hid (endO_ok h)
   clear h
   go_wp2_with fail
   exact bodyPost_end (v:=.tuple #[]) (by simp[results,Tryz.results41]) rfl ⟨by rw[HM.out];exact HE.out.symm,by rw[HM.out];exact HD1.out⟩
  ·rw[endO_bad h]
   exact⟨rfl,by rw[HM.out];exact(endO_bad h).symm,by rw[HM.out];exact HD1.out⟩
theorem reck_mark{w1:World}{F0:Nat→Prop}{D b:Nat}{g:Int→Int}{cc dd:Sg}{t:Sta}{I:Ins}(_ht:StaOk t)(_hA:0≤I.a.disp∧I.a.disp<4294967296)(_hB:0≤I.b.disp∧I.b.disp<4294967296)(hop:I.op=41∨I.op=42∨I.op=43∨I.op=44∨I.op=45)(w:World)(hD:DM w1 F0 D b g cc dd t I w):
  Calls Tryz.prog 41 #[.pointer (some ⟨D,0,none⟩)] w fun e w'=>e=endO (reckZ g dd t I).e∧DM w1 F0 D b (reckZ g dd t I).g cc dd (reckZ g dd t I).t I w':=by
 have HS:=Lib.hid (fun u (h:DM w1 F0 D b g cc dd t I u)=>mark_any15 hop u h)
 have hm:reckZ g dd t I=markZ g t I.op:=by unfold reckZ;rw[if_neg (by omega),if_neg (by omega),if_neg (by omega),if_neg (by omega),if_neg (by omega),if_neg (by omega),if_neg (by omega),if_neg (by omega),if_neg (by omega),if_neg (by omega),if_pos hop]
 have h1:=markZ_eg g t I.op
 have HM:=Lib.hid (show reckZ g dd t I=⟨0,(markZ g t I.op).t,g⟩by rw[hm];generalize markZ g t I.op=m at h1;obtain⟨a,b,c⟩:=m;obtain⟨rfl,rfl⟩:=h1;rfl)
 obtain⟨T,hT⟩:∃T,(markZ g t I.op).t=T:=⟨_,rfl⟩
 rw[hT]at HS HM
 have HD:=Lib.hid hD
 clear hT hm h1 hD
 rcases hop with h|h|h|h|h
 all_goals
  have c0:=HD.out.op
  rw[h]at c0
  clear h
  go_enter Tryz.func41,Tryz.ntmps41
  go_wp2_with fail
  ((with_reducible refine(HS.out _ HD.out).mono ?_);rintro e w2 ⟨rfl,hd⟩)
  have HD1:=Lib.hid hd
  clear hd c0
  go_wp2_with fail
  exact bodyPost_end (v:=.tuple #[]) (by simp[results,Tryz.results41]) rfl ⟨by rw[HM.out];rfl,by rw[HM.out];exact HD1.out⟩
theorem reck_not{w1:World}{F0:Nat→Prop}{D b:Nat}{g:Int→Int}{cc dd:Sg}{t:Sta}{I:Ins}(ht:StaOk t)(hA:0≤I.a.disp∧I.a.disp<4294967296)(_hB:0≤I.b.disp∧I.b.disp<4294967296)(h:I.op=10)(w:World)(hD:DM w1 F0 D b g cc dd t I w):
  Calls Tryz.prog 41 #[.pointer (some ⟨D,0,none⟩)] w fun e w'=>e=endO (reckZ g dd t I).e∧DM w1 F0 D b (reckZ g dd t I).g cc dd (reckZ g dd t I).t I w':=by
 have HLa:=Lib.hid (fun u (h:DM w1 F0 D b g cc dd t I u)=>first_any15 ht hA.1 hA.2 u h)
 have hx0:=cut_lo (aldV g dd t I.a I.size) I.size
 have hx1:=cut_hi (aldV g dd t I.a I.size) I.size
 rw[show cut (aldV g dd t I.a I.size) I.size=lodV g dd t I.a I.size from rfl]at hx0 hx1
 have hz:=fun J=>oneZ_ok (g:=g) (dd:=dd) (t:=t) (I:=I) (J:=J)
 have hn:∀J,¬aldE dd t I.a I.size=0→oneZ g dd t I J=⟨2,t,g⟩:=fun J h=>oneZ_bad h
 obtain⟨Ea,h1⟩:∃E,aldE dd t I.a I.size=E:=⟨_,rfl⟩
 obtain⟨x,h2⟩:∃X,lodV g dd t I.a I.size=X:=⟨_,rfl⟩
 rw[h1,h2]at HLa hz
 rw[h1]at hn
 rw[h2]at hx0 hx1
 have HB:=Lib.hid (show ¬Ea=0→reckZ g dd t I=⟨2,t,g⟩from fun e=>(show reckZ g dd t I=_ from(by unfold reckZ;rw[if_neg (by omega),if_neg (by omega),if_pos h])).trans (hn _ e))
 have HZ:=Lib.hid (show Ea=0→reckZ g dd t I=putZ g dd t I.a I.size (bits .xor .u32 4294967295 x)from fun e=>(show reckZ g dd t I=_ from(by unfold reckZ;rw[if_neg (by omega),if_neg (by omega),if_pos h])).trans (hz _ e))
 have HPU:=Lib.hid (fun u (hu:DM w1 F0 D b g cc dd t I u)=>put_any15 ht hA (bits .xor .u32 4294967295 x) (xor_lo 4294967295 x (by decide) (by decide) hx0 hx1) (xor_hi 4294967295 x (by decide) (by decide) hx0 hx1) u hu)
 obtain⟨M,hM⟩:∃M,putZ g dd t I.a I.size (bits .xor .u32 4294967295 x)=M:=⟨_,rfl⟩
 rw[hM]at HPU HZ
 rw[show(4294967295:Int)=IntKind.u32.max from max_u32.symm]at HPU
 have HD:=Lib.hid hD
 have HS:=Lib.hid HLa.out
 clear hM hz hn hx0 hx1 h1 h2 ht hA hD HLa
 have c0:=HD.out.op
 rw[h]at c0
 clear h
 go_enter Tryz.func41,Tryz.ntmps41
 go_wp2_with fail
 ((with_reducible refine(HS.out _ HD.out).mono ?_);rintro e w2 ⟨rfl,b1⟩)
 have HD1:=Lib.hid (HD.out.below b1)
 clear b1 c0
 by_cases hE:Ea=0
 ·have HM:=Lib.hid (HZ.out hE)
  rw[endL_ok hE]
  clear hE
  go_wp2_with fail
  ((with_reducible refine(HPU.out _ HD1.out).mono ?_);rintro e w3 ⟨rfl,hd⟩)
  have HD2:=Lib.hid hd
  clear hd
  by_cases h:M.e=0
  ·rw[endO_ok h]
   have HE:=Lib.hid (endO_ok h)
   clear h
   go_wp2_with fail
   exact bodyPost_end (v:=.tuple #[]) (by simp[results,Tryz.results41]) rfl ⟨by rw[HM.out];exact HE.out.symm,by rw[HM.out];exact HD2.out⟩
  ·rw[endO_bad h]
   exact⟨rfl,by rw[HM.out];exact(endO_bad h).symm,by rw[HM.out];exact HD2.out⟩
 ·have HM:=Lib.hid (HB.out hE)
  rw[endL_bad hE]
  exact⟨rfl,by rw[HM.out];rfl,by rw[HM.out];exact HD1.out⟩
theorem reck_neg{w1:World}{F0:Nat→Prop}{D b:Nat}{g:Int→Int}{cc dd:Sg}{t:Sta}{I:Ins}(ht:StaOk t)(hA:0≤I.a.disp∧I.a.disp<4294967296)(_hB:0≤I.b.disp∧I.b.disp<4294967296)(h:I.op=11)(w:World)(hD:DM w1 F0 D b g cc dd t I w):
  Calls Tryz.prog 41 #[.pointer (some ⟨D,0,none⟩)] w fun e w'=>e=endO (reckZ g dd t I).e∧DM w1 F0 D b (reckZ g dd t I).g cc dd (reckZ g dd t I).t I w':=by
 have HLa:=Lib.hid (fun u (h:DM w1 F0 D b g cc dd t I u)=>first_any15 ht hA.1 hA.2 u h)
 have hx0:=cut_lo (aldV g dd t I.a I.size) I.size
 have hx1:=cut_hi (aldV g dd t I.a I.size) I.size
 rw[show cut (aldV g dd t I.a I.size) I.size=lodV g dd t I.a I.size from rfl]at hx0 hx1
 have hz:=fun J=>oneZ_ok (g:=g) (dd:=dd) (t:=t) (I:=I) (J:=J)
 have hn:∀J,¬aldE dd t I.a I.size=0→oneZ g dd t I J=⟨2,t,g⟩:=fun J h=>oneZ_bad h
 obtain⟨Ea,h1⟩:∃E,aldE dd t I.a I.size=E:=⟨_,rfl⟩
 obtain⟨x,h2⟩:∃X,lodV g dd t I.a I.size=X:=⟨_,rfl⟩
 rw[h1,h2]at HLa hz
 rw[h1]at hn
 rw[h2]at hx0 hx1
 have HB:=Lib.hid (show ¬Ea=0→reckZ g dd t I=⟨2,t,g⟩from fun e=>(show reckZ g dd t I=_ from(by unfold reckZ;rw[if_neg (by omega),if_neg (by omega),if_neg (by omega),if_pos h])).trans (hn _ e))
 have HZ:=Lib.hid (show Ea=0→reckZ g dd t I=keepZ g dd t I (subV 0 x I.size false) (subC 0 x I.size false) (par (subV 0 x I.size false)) (zer (subV 0 x I.size false)) (hi (subV 0 x I.size false) I.size) (subO 0 x I.size false)from fun e=>(show reckZ g dd t I=_ from(by unfold reckZ;rw[if_neg (by omega),if_neg (by omega),if_neg (by omega),if_pos h])).trans (hz _ e))
 have HKE:=Lib.hid (fun u (hu:DM w1 F0 D b g cc dd t I u)=>keep_fl15 ht hA (subV 0 x I.size false) (subV_lo _ _ _ _) (subV_hi _ _ _ _) (subC 0 x I.size false) (par (subV 0 x I.size false)) (zer (subV 0 x I.size false)) (hi (subV 0 x I.size false) I.size) (subO 0 x I.size false) false u hu)
 obtain⟨M,hM⟩:∃M,keepZ g dd t I (subV 0 x I.size false) (subC 0 x I.size false) (par (subV 0 x I.size false)) (zer (subV 0 x I.size false)) (hi (subV 0 x I.size false) I.size) (subO 0 x I.size false)=M:=⟨_,rfl⟩
 rw[hM]at HKE HZ
 have HD:=Lib.hid hD
 have HLB:=Lib.hid HLa.out
 clear hM hz hn hx0 hx1 h1 h2 ht hA hD HLa
 obtain⟨X1,X2,X3,X4,hX⟩:∃X1 X2 X3 X4:Option Value,(Ea=0∧X1=some (.int .u32 (x))∧X2=some (.tuple #[.int .u32 (subV 0 x I.size false),.agg (flL (subC 0 x I.size false) (par (subV 0 x I.size false)) (zer (subV 0 x I.size false)) (hi (subV 0 x I.size false) I.size) (subO 0 x I.size false) false).toArray])∧X3=some (.int .u32 (subV 0 x I.size false))∧X4=some (.agg (flL (subC 0 x I.size false) (par (subV 0 x I.size false)) (zer (subV 0 x I.size false)) (hi (subV 0 x I.size false) I.size) (subO 0 x I.size false) false).toArray))∨(¬Ea=0∧X1=none∧X2=none∧X3=none∧X4=none):=by
  by_cases h:Ea=0
  ·exact⟨_,_,_,_,.inl ⟨h,rfl,rfl,rfl,rfl⟩⟩
  ·exact⟨_,_,_,_,.inr ⟨h,rfl,rfl,rfl,rfl⟩⟩
 have HX:=Lib.hid hX
 clear hX
 have c0:=HD.out.op
 rw[h]at c0
 clear h
 go_enter Tryz.func41,Tryz.ntmps41
 go_wp2_with fail
 clear c0
 refine wp_region_autoT (by kernel_rfl) 11 _ rfl rfl (by kernel_rfl) (fun n=>false) (by kernel_rfl) (DB w w1 F0 D b g cc dd t I) [some (.pointer (some ⟨D,0,none⟩)),some (.pointer (some ⟨D,0,none⟩)),X1,some (.pointer (some ⟨D,0,none⟩)),some (.pointer (some ⟨D,0,none⟩)),some (.pointer (some ⟨D,0,none⟩)),some (.pointer (some ⟨D,2,none⟩)),some (.int .i64 (I.size)),X2,X3,X4,none]
  [(4,3,38),(5,4,39),(6,5,40),(7,6,41),(9,8,43),(10,8,43)] [(0,0),(1,0),(3,0)] [2,8] (by decide) ?_ ?_ (DB.start HD.out) ?_ ?_
 ·repeat' apply And.intro
  all_goals first
   |trivial
   |exact⟨_,rfl,by kernel_rfl,rfl,rfl,rfl,fun _=>rfl,fun _ h=>⟨_,rfl,fun _ _=>by cases h;rfl⟩⟩
   |exact⟨_,rfl,by kernel_rfl,rfl,rfl,rfl,fun _=>rfl,fun _ h=>⟨_,h,fun _ _=>rfl⟩⟩
   |exact⟨_,rfl,by kernel_rfl,rfl,rfl,rfl,fun _=>rfl,fun _ h=>HX.out.elim (fun q=>by obtain⟨_,x1,x2,x3,x4⟩:=q;(first|cases x2.symm.trans h|fail);first|exact⟨_,x3,fun _ _=>rfl⟩|exact⟨_,x4,fun _ _=>rfl⟩|fail) (fun q=>by obtain⟨_,x1,x2,x3,x4⟩:=q;first|cases x2.symm.trans h|fail)⟩
   |exact⟨_,rfl,by kernel_rfl,rfl,rfl,rfl,fun _=>rfl,fun _ h=>⟨_,rfl,fun _ hu=>by cases h;exact ld1 (lo_size hu.dm)⟩⟩
 ·repeat' apply And.intro
  all_goals first
   |trivial
   |exact⟨_,rfl,by kernel_rfl,rfl,fun _=>rfl,_,rfl,fun _ _=>rfl⟩
 ·intro n op f u hn ho hinv hdf hbase hdep
  rcases(show n=2∨n=8 by simpa using hn)with rfl|rfl
  ·cases ho
   have e36:f.tmps.getD 36 undef=.pointer (some ⟨D,0,none⟩):=tab_at (hdep 1 (by kernel_rfl))
   rcases HX.out with⟨hE,x1,x2,x3,x4⟩|⟨hE,x1,x2,x3,x4⟩
   ·refine wp_call (by simp[execOp,Act.eval,e36,go_sem]<;>rfl) ((HLB.out u hinv.dm).mono ?_)
    rintro e u2 ⟨rfl,hb⟩
    rw[endL_ok hE]
    exact⟨_,rfl,_,rfl,hinv.below hb,x1⟩
   ·refine wp_call_or (by simp[execOp,Act.eval,e36,go_sem]<;>rfl) ((HLB.out u hinv.dm).mono ?_)
    rintro e u2 ⟨rfl,hb⟩
    exact .inr ⟨_,endL_bad hE,hdf,by rw[HB.out hE];rfl,by rw[HB.out hE];exact(hinv.below hb).dm⟩
  ·cases ho
   rcases HX.out with⟨hE,x1,x2,x3,x4⟩|⟨hE,x1,x2,x3,x4⟩
   ·have e37:f.tmps.getD 37 undef=.int .u32 (x):=tab_at (x1.symm.trans (hdep 2 (by kernel_rfl)))
    have e42:f.tmps.getD 42 undef=.int .i64 (I.size):=tab_at (hdep 7 (by kernel_rfl))
    refine wp_call (by simp[execOp,Act.eval,e37,e42,go_sem]<;>rfl) ((sub_any 0 x I.size false u).mono ?_)
    rintro e u2 ⟨rfl,hb⟩
    exact⟨_,rfl,_,rfl,hinv.below hb,x2⟩
   ·cases x1.symm.trans (hdep 2 (by kernel_rfl))
 ·intro f u hinv hV
  have hx:=hV 2 (by decide)
  rcases HX.out with⟨hE,x1,x2,x3,x4⟩|⟨hE,x1,x2,x3,x4⟩
  ·have HM:=Lib.hid (HZ.out hE)
   have c0:f 0=.pointer (some ⟨D,0,none⟩):=tab_at (hV 0 (by decide))
   have c9:f 9=.int .u32 (subV 0 x I.size false):=tab_at (x3.symm.trans (hV 9 (by decide)))
   have c10:f 10=.agg (flL (subC 0 x I.size false) (par (subV 0 x I.size false)) (zer (subV 0 x I.size false)) (hi (subV 0 x I.size false) I.size) (subO 0 x I.size false) false).toArray:=tab_at (x4.symm.trans (hV 10 (by decide)))
   refine wp_call_or (f:=66) (args:=#[f 0,f 9,f 10]) (by kernel_rfl) ?_
   rw[c0,c9,c10]
   refine(HKE.out u hinv.dm).mono ?_
   rintro e u2 ⟨rfl,hd⟩
   by_cases h:M.e=0
   ·refine .inl ⟨_,endO_ok h,?_⟩
    unfold Exit.inBlock
    exact bodyPost_end (v:=.tuple #[]) (by simp[results,Tryz.results41]) (by kernel_rfl) ⟨by rw[HM.out];exact(endO_ok h).symm,by rw[HM.out];exact hd⟩
   ·exact .inr ⟨_,endO_bad h,by kernel_rfl,by rw[HM.out];exact(endO_bad h).symm,by rw[HM.out];exact hd⟩
  ·cases x1.symm.trans hx
theorem reck_inc{w1:World}{F0:Nat→Prop}{D b:Nat}{g:Int→Int}{cc dd:Sg}{t:Sta}{I:Ins}(ht:StaOk t)(hA:0≤I.a.disp∧I.a.disp<4294967296)(_hB:0≤I.b.disp∧I.b.disp<4294967296)(h:I.op=16)(w:World)(hD:DM w1 F0 D b g cc dd t I w):
  Calls Tryz.prog 41 #[.pointer (some ⟨D,0,none⟩)] w fun e w'=>e=endO (reckZ g dd t I).e∧DM w1 F0 D b (reckZ g dd t I).g cc dd (reckZ g dd t I).t I w':=by
 have HLa:=Lib.hid (fun u (h:DM w1 F0 D b g cc dd t I u)=>first_any15 ht hA.1 hA.2 u h)
 have hx0:=cut_lo (aldV g dd t I.a I.size) I.size
 have hx1:=cut_hi (aldV g dd t I.a I.size) I.size
 rw[show cut (aldV g dd t I.a I.size) I.size=lodV g dd t I.a I.size from rfl]at hx0 hx1
 have hz:=fun J=>oneZ_ok (g:=g) (dd:=dd) (t:=t) (I:=I) (J:=J)
 have hn:∀J,¬aldE dd t I.a I.size=0→oneZ g dd t I J=⟨2,t,g⟩:=fun J h=>oneZ_bad h
 obtain⟨Ea,h1⟩:∃E,aldE dd t I.a I.size=E:=⟨_,rfl⟩
 obtain⟨x,h2⟩:∃X,lodV g dd t I.a I.size=X:=⟨_,rfl⟩
 rw[h1,h2]at HLa hz
 rw[h1]at hn
 rw[h2]at hx0 hx1
 have HB:=Lib.hid (show ¬Ea=0→reckZ g dd t I=⟨2,t,g⟩from fun e=>(show reckZ g dd t I=_ from(by unfold reckZ stepZ;rw[if_neg (by omega),if_neg (by omega),if_neg (by omega),if_neg (by omega),if_pos h])).trans (hn _ e))
 have HZ:=Lib.hid (show Ea=0→reckZ g dd t I=keepZ g dd t I (stepV x I.size 1) t.c (par (stepV x I.size 1)) (zer (stepV x I.size 1)) (hi (stepV x I.size 1) I.size) (stepO x I.size 1)from fun e=>(show reckZ g dd t I=_ from(by unfold reckZ stepZ;rw[if_neg (by omega),if_neg (by omega),if_neg (by omega),if_neg (by omega),if_pos h])).trans (hz _ e))
 have HKE:=Lib.hid (fun u (hu:DM w1 F0 D b g cc dd t I u)=>keep_fl15 ht hA (stepV x I.size 1) (stepV_lo _ _ _) (stepV_hi _ _ _) t.c (par (stepV x I.size 1)) (zer (stepV x I.size 1)) (hi (stepV x I.size 1) I.size) (stepO x I.size 1) t.d u hu)
 obtain⟨M,hM⟩:∃M,keepZ g dd t I (stepV x I.size 1) t.c (par (stepV x I.size 1)) (zer (stepV x I.size 1)) (hi (stepV x I.size 1) I.size) (stepO x I.size 1)=M:=⟨_,rfl⟩
 rw[hM]at HKE HZ
 have HD:=Lib.hid hD
 have HLB:=Lib.hid HLa.out
 clear hM hz hn hx0 hx1 h1 h2 ht hA hD HLa
 obtain⟨X1,X2,X3,X4,hX⟩:∃X1 X2 X3 X4:Option Value,(Ea=0∧X1=some (.int .u32 (x))∧X2=some (.tuple #[.int .u32 (stepV x I.size 1),.agg (flL t.c (par (stepV x I.size 1)) (zer (stepV x I.size 1)) (hi (stepV x I.size 1) I.size) (stepO x I.size 1) t.d).toArray])∧X3=some (.int .u32 (stepV x I.size 1))∧X4=some (.agg (flL t.c (par (stepV x I.size 1)) (zer (stepV x I.size 1)) (hi (stepV x I.size 1) I.size) (stepO x I.size 1) t.d).toArray))∨(¬Ea=0∧X1=none∧X2=none∧X3=none∧X4=none):=by
  by_cases h:Ea=0
  ·exact⟨_,_,_,_,.inl ⟨h,rfl,rfl,rfl,rfl⟩⟩
  ·exact⟨_,_,_,_,.inr ⟨h,rfl,rfl,rfl,rfl⟩⟩
 have HX:=Lib.hid hX
 clear hX
 have c0:=HD.out.op
 rw[h]at c0
 clear h
 go_enter Tryz.func41,Tryz.ntmps41
 go_wp2_with fail
 clear c0
 refine wp_region_autoT (by kernel_rfl) 16 _ rfl rfl (by kernel_rfl) (fun n=>false) (by kernel_rfl) (DB w w1 F0 D b g cc dd t I) [some (.pointer (some ⟨D,0,none⟩)),some (.pointer (some ⟨D,0,none⟩)),some (.pointer (some ⟨D,0,none⟩)),some (.pointer (some ⟨D,19,none⟩)),some (.pointer (some ⟨D,28,none⟩)),some (.agg (flL t.c t.p t.z t.s t.o t.d).toArray),some (.pointer (some ⟨D,0,none⟩)),X1,some (.pointer (some ⟨D,0,none⟩)),some (.pointer (some ⟨D,0,none⟩)),some (.pointer (some ⟨D,0,none⟩)),some (.pointer (some ⟨D,2,none⟩)),some (.int .i64 (I.size)),X2,X3,X4,none]
  [(2,1,50),(3,2,51),(4,3,52),(5,4,53),(9,8,57),(10,9,58),(11,10,59),(12,11,60),(14,13,62),(15,13,62)] [(0,0),(1,0),(6,0),(8,0)] [7,13] (by decide) ?_ ?_ (DB.start HD.out) ?_ ?_
 ·repeat' apply And.intro
  all_goals first
   |trivial
   |exact⟨_,rfl,by kernel_rfl,rfl,rfl,rfl,fun _=>rfl,fun _ h=>⟨_,rfl,fun _ _=>by cases h;rfl⟩⟩
   |exact⟨_,rfl,by kernel_rfl,rfl,rfl,rfl,fun _=>rfl,fun _ h=>⟨_,h,fun _ _=>rfl⟩⟩
   |exact⟨_,rfl,by kernel_rfl,rfl,rfl,rfl,fun _=>rfl,fun _ h=>HX.out.elim (fun q=>by obtain⟨_,x1,x2,x3,x4⟩:=q;(first|cases x2.symm.trans h|fail);first|exact⟨_,x3,fun _ _=>rfl⟩|exact⟨_,x4,fun _ _=>rfl⟩|fail) (fun q=>by obtain⟨_,x1,x2,x3,x4⟩:=q;first|cases x2.symm.trans h|fail)⟩
   |exact⟨_,rfl,by kernel_rfl,rfl,rfl,rfl,fun _=>rfl,fun _ h=>⟨_,rfl,fun _ hu=>by cases h;exact ld1 (lo_fls hu.dm)⟩⟩
   |exact⟨_,rfl,by kernel_rfl,rfl,rfl,rfl,fun _=>rfl,fun _ h=>⟨_,rfl,fun _ hu=>by cases h;exact ld1 (lo_size hu.dm)⟩⟩
 ·repeat' apply And.intro
  all_goals first
   |trivial
   |exact⟨_,rfl,by kernel_rfl,rfl,fun _=>rfl,_,rfl,fun _ _=>rfl⟩
 ·intro n op f u hn ho hinv hdf hbase hdep
  rcases(show n=7∨n=13 by simpa using hn)with rfl|rfl
  ·cases ho
   have e55:f.tmps.getD 55 undef=.pointer (some ⟨D,0,none⟩):=tab_at (hdep 6 (by kernel_rfl))
   rcases HX.out with⟨hE,x1,x2,x3,x4⟩|⟨hE,x1,x2,x3,x4⟩
   ·refine wp_call (by simp[execOp,Act.eval,e55,go_sem]<;>rfl) ((HLB.out u hinv.dm).mono ?_)
    rintro e u2 ⟨rfl,hb⟩
    rw[endL_ok hE]
    exact⟨_,rfl,_,rfl,hinv.below hb,x1⟩
   ·refine wp_call_or (by simp[execOp,Act.eval,e55,go_sem]<;>rfl) ((HLB.out u hinv.dm).mono ?_)
    rintro e u2 ⟨rfl,hb⟩
    exact .inr ⟨_,endL_bad hE,hdf,by rw[HB.out hE];rfl,by rw[HB.out hE];exact(hinv.below hb).dm⟩
  ·cases ho
   rcases HX.out with⟨hE,x1,x2,x3,x4⟩|⟨hE,x1,x2,x3,x4⟩
   ·have e54:f.tmps.getD 54 undef=.agg (flL t.c t.p t.z t.s t.o t.d).toArray:=tab_at (hdep 5 (by kernel_rfl))
    have e56:f.tmps.getD 56 undef=.int .u32 (x):=tab_at (x1.symm.trans (hdep 7 (by kernel_rfl)))
    have e61:f.tmps.getD 61 undef=.int .i64 (I.size):=tab_at (hdep 12 (by kernel_rfl))
    refine wp_call (by simp[execOp,Act.eval,e54,e56,e61,go_sem]<;>rfl) ((step_any _ _ _ _ _ _ x I.size 1 u).mono ?_)
    rintro e u2 ⟨rfl,hb⟩
    exact⟨_,rfl,_,rfl,hinv.below hb,x2⟩
   ·cases x1.symm.trans (hdep 7 (by kernel_rfl))
 ·intro f u hinv hV
  have hx:=hV 7 (by decide)
  rcases HX.out with⟨hE,x1,x2,x3,x4⟩|⟨hE,x1,x2,x3,x4⟩
  ·have HM:=Lib.hid (HZ.out hE)
   have c0:f 0=.pointer (some ⟨D,0,none⟩):=tab_at (hV 0 (by decide))
   have c14:f 14=.int .u32 (stepV x I.size 1):=tab_at (x3.symm.trans (hV 14 (by decide)))
   have c15:f 15=.agg (flL t.c (par (stepV x I.size 1)) (zer (stepV x I.size 1)) (hi (stepV x I.size 1) I.size) (stepO x I.size 1) t.d).toArray:=tab_at (x4.symm.trans (hV 15 (by decide)))
   refine wp_call_or (f:=66) (args:=#[f 0,f 14,f 15]) (by kernel_rfl) ?_
   rw[c0,c14,c15]
   refine(HKE.out u hinv.dm).mono ?_
   rintro e u2 ⟨rfl,hd⟩
   by_cases h:M.e=0
   ·refine .inl ⟨_,endO_ok h,?_⟩
    unfold Exit.inBlock
    exact bodyPost_end (v:=.tuple #[]) (by simp[results,Tryz.results41]) (by kernel_rfl) ⟨by rw[HM.out];exact(endO_ok h).symm,by rw[HM.out];exact hd⟩
   ·exact .inr ⟨_,endO_bad h,by kernel_rfl,by rw[HM.out];exact(endO_bad h).symm,by rw[HM.out];exact hd⟩
  ·cases x1.symm.trans hx
theorem reck_dec{w1:World}{F0:Nat→Prop}{D b:Nat}{g:Int→Int}{cc dd:Sg}{t:Sta}{I:Ins}(ht:StaOk t)(hA:0≤I.a.disp∧I.a.disp<4294967296)(_hB:0≤I.b.disp∧I.b.disp<4294967296)(h:I.op=17)(w:World)(hD:DM w1 F0 D b g cc dd t I w):
  Calls Tryz.prog 41 #[.pointer (some ⟨D,0,none⟩)] w fun e w'=>e=endO (reckZ g dd t I).e∧DM w1 F0 D b (reckZ g dd t I).g cc dd (reckZ g dd t I).t I w':=by
 have HLa:=Lib.hid (fun u (h:DM w1 F0 D b g cc dd t I u)=>first_any15 ht hA.1 hA.2 u h)
 have hx0:=cut_lo (aldV g dd t I.a I.size) I.size
 have hx1:=cut_hi (aldV g dd t I.a I.size) I.size
 rw[show cut (aldV g dd t I.a I.size) I.size=lodV g dd t I.a I.size from rfl]at hx0 hx1
 have hz:=fun J=>oneZ_ok (g:=g) (dd:=dd) (t:=t) (I:=I) (J:=J)
 have hn:∀J,¬aldE dd t I.a I.size=0→oneZ g dd t I J=⟨2,t,g⟩:=fun J h=>oneZ_bad h
 obtain⟨Ea,h1⟩:∃E,aldE dd t I.a I.size=E:=⟨_,rfl⟩
 obtain⟨x,h2⟩:∃X,lodV g dd t I.a I.size=X:=⟨_,rfl⟩
 rw[h1,h2]at HLa hz
 rw[h1]at hn
 rw[h2]at hx0 hx1
 have HB:=Lib.hid (show ¬Ea=0→reckZ g dd t I=⟨2,t,g⟩from fun e=>(show reckZ g dd t I=_ from(by unfold reckZ stepZ;rw[if_neg (by omega),if_neg (by omega),if_neg (by omega),if_neg (by omega),if_neg (by omega),if_pos h])).trans (hn _ e))
 have HZ:=Lib.hid (show Ea=0→reckZ g dd t I=keepZ g dd t I (stepV x I.size (-1)) t.c (par (stepV x I.size (-1))) (zer (stepV x I.size (-1))) (hi (stepV x I.size (-1)) I.size) (stepO x I.size (-1))from fun e=>(show reckZ g dd t I=_ from(by unfold reckZ stepZ;rw[if_neg (by omega),if_neg (by omega),if_neg (by omega),if_neg (by omega),if_neg (by omega),if_pos h])).trans (hz _ e))
 have HKE:=Lib.hid (fun u (hu:DM w1 F0 D b g cc dd t I u)=>keep_fl15 ht hA (stepV x I.size (-1)) (stepV_lo _ _ _) (stepV_hi _ _ _) t.c (par (stepV x I.size (-1))) (zer (stepV x I.size (-1))) (hi (stepV x I.size (-1)) I.size) (stepO x I.size (-1)) t.d u hu)
 obtain⟨M,hM⟩:∃M,keepZ g dd t I (stepV x I.size (-1)) t.c (par (stepV x I.size (-1))) (zer (stepV x I.size (-1))) (hi (stepV x I.size (-1)) I.size) (stepO x I.size (-1))=M:=⟨_,rfl⟩
 rw[hM]at HKE HZ
 have HD:=Lib.hid hD
 have HLB:=Lib.hid HLa.out
 clear hM hz hn hx0 hx1 h1 h2 ht hA hD HLa
 obtain⟨X1,X2,X3,X4,hX⟩:∃X1 X2 X3 X4:Option Value,(Ea=0∧X1=some (.int .u32 (x))∧X2=some (.tuple #[.int .u32 (stepV x I.size (-1)),.agg (flL t.c (par (stepV x I.size (-1))) (zer (stepV x I.size (-1))) (hi (stepV x I.size (-1)) I.size) (stepO x I.size (-1)) t.d).toArray])∧X3=some (.int .u32 (stepV x I.size (-1)))∧X4=some (.agg (flL t.c (par (stepV x I.size (-1))) (zer (stepV x I.size (-1))) (hi (stepV x I.size (-1)) I.size) (stepO x I.size (-1)) t.d).toArray))∨(¬Ea=0∧X1=none∧X2=none∧X3=none∧X4=none):=by
  by_cases h:Ea=0
  ·exact⟨_,_,_,_,.inl ⟨h,rfl,rfl,rfl,rfl⟩⟩
  ·exact⟨_,_,_,_,.inr ⟨h,rfl,rfl,rfl,rfl⟩⟩
 have HX:=Lib.hid hX
 clear hX
 have c0:=HD.out.op
 rw[h]at c0
 clear h
 go_enter Tryz.func41,Tryz.ntmps41
 go_wp2_with fail
 clear c0
 refine wp_region_autoT (by kernel_rfl) 16 _ rfl rfl (by kernel_rfl) (fun n=>false) (by kernel_rfl) (DB w w1 F0 D b g cc dd t I) [some (.pointer (some ⟨D,0,none⟩)),some (.pointer (some ⟨D,0,none⟩)),some (.pointer (some ⟨D,0,none⟩)),some (.pointer (some ⟨D,19,none⟩)),some (.pointer (some ⟨D,28,none⟩)),some (.agg (flL t.c t.p t.z t.s t.o t.d).toArray),some (.pointer (some ⟨D,0,none⟩)),X1,some (.pointer (some ⟨D,0,none⟩)),some (.pointer (some ⟨D,0,none⟩)),some (.pointer (some ⟨D,0,none⟩)),some (.pointer (some ⟨D,2,none⟩)),some (.int .i64 (I.size)),X2,X3,X4,none]
  [(2,1,69),(3,2,70),(4,3,71),(5,4,72),(9,8,76),(10,9,77),(11,10,78),(12,11,79),(14,13,81),(15,13,81)] [(0,0),(1,0),(6,0),(8,0)] [7,13] (by decide) ?_ ?_ (DB.start HD.out) ?_ ?_
 ·repeat' apply And.intro
  all_goals first
   |trivial
   |exact⟨_,rfl,by kernel_rfl,rfl,rfl,rfl,fun _=>rfl,fun _ h=>⟨_,rfl,fun _ _=>by cases h;rfl⟩⟩
   |exact⟨_,rfl,by kernel_rfl,rfl,rfl,rfl,fun _=>rfl,fun _ h=>⟨_,h,fun _ _=>rfl⟩⟩
   |exact⟨_,rfl,by kernel_rfl,rfl,rfl,rfl,fun _=>rfl,fun _ h=>HX.out.elim (fun q=>by obtain⟨_,x1,x2,x3,x4⟩:=q;(first|cases x2.symm.trans h|fail);first|exact⟨_,x3,fun _ _=>rfl⟩|exact⟨_,x4,fun _ _=>rfl⟩|fail) (fun q=>by obtain⟨_,x1,x2,x3,x4⟩:=q;first|cases x2.symm.trans h|fail)⟩
   |exact⟨_,rfl,by kernel_rfl,rfl,rfl,rfl,fun _=>rfl,fun _ h=>⟨_,rfl,fun _ hu=>by cases h;exact ld1 (lo_fls hu.dm)⟩⟩
   |exact⟨_,rfl,by kernel_rfl,rfl,rfl,rfl,fun _=>rfl,fun _ h=>⟨_,rfl,fun _ hu=>by cases h;exact ld1 (lo_size hu.dm)⟩⟩
 ·repeat' apply And.intro
  all_goals first
   |trivial
   |exact⟨_,rfl,by kernel_rfl,rfl,fun _=>rfl,_,rfl,fun _ _=>rfl⟩
 ·intro n op f u hn ho hinv hdf hbase hdep
  rcases(show n=7∨n=13 by simpa using hn)with rfl|rfl
  ·cases ho
   have e74:f.tmps.getD 74 undef=.pointer (some ⟨D,0,none⟩):=tab_at (hdep 6 (by kernel_rfl))
   rcases HX.out with⟨hE,x1,x2,x3,x4⟩|⟨hE,x1,x2,x3,x4⟩
   ·refine wp_call (by simp[execOp,Act.eval,e74,go_sem]<;>rfl) ((HLB.out u hinv.dm).mono ?_)
    rintro e u2 ⟨rfl,hb⟩
    rw[endL_ok hE]
    exact⟨_,rfl,_,rfl,hinv.below hb,x1⟩
   ·refine wp_call_or (by simp[execOp,Act.eval,e74,go_sem]<;>rfl) ((HLB.out u hinv.dm).mono ?_)
    rintro e u2 ⟨rfl,hb⟩
    exact .inr ⟨_,endL_bad hE,hdf,by rw[HB.out hE];rfl,by rw[HB.out hE];exact(hinv.below hb).dm⟩
  ·cases ho
   rcases HX.out with⟨hE,x1,x2,x3,x4⟩|⟨hE,x1,x2,x3,x4⟩
   ·have e73:f.tmps.getD 73 undef=.agg (flL t.c t.p t.z t.s t.o t.d).toArray:=tab_at (hdep 5 (by kernel_rfl))
    have e75:f.tmps.getD 75 undef=.int .u32 (x):=tab_at (x1.symm.trans (hdep 7 (by kernel_rfl)))
    have e80:f.tmps.getD 80 undef=.int .i64 (I.size):=tab_at (hdep 12 (by kernel_rfl))
    refine wp_call (by simp[execOp,Act.eval,e73,e75,e80,go_sem]<;>rfl) ((step_any _ _ _ _ _ _ x I.size (-1) u).mono ?_)
    rintro e u2 ⟨rfl,hb⟩
    exact⟨_,rfl,_,rfl,hinv.below hb,x2⟩
   ·cases x1.symm.trans (hdep 7 (by kernel_rfl))
 ·intro f u hinv hV
  have hx:=hV 7 (by decide)
  rcases HX.out with⟨hE,x1,x2,x3,x4⟩|⟨hE,x1,x2,x3,x4⟩
  ·have HM:=Lib.hid (HZ.out hE)
   have c0:f 0=.pointer (some ⟨D,0,none⟩):=tab_at (hV 0 (by decide))
   have c14:f 14=.int .u32 (stepV x I.size (-1)):=tab_at (x3.symm.trans (hV 14 (by decide)))
   have c15:f 15=.agg (flL t.c (par (stepV x I.size (-1))) (zer (stepV x I.size (-1))) (hi (stepV x I.size (-1)) I.size) (stepO x I.size (-1)) t.d).toArray:=tab_at (x4.symm.trans (hV 15 (by decide)))
   refine wp_call_or (f:=66) (args:=#[f 0,f 14,f 15]) (by kernel_rfl) ?_
   rw[c0,c14,c15]
   refine(HKE.out u hinv.dm).mono ?_
   rintro e u2 ⟨rfl,hd⟩
   by_cases h:M.e=0
   ·refine .inl ⟨_,endO_ok h,?_⟩
    unfold Exit.inBlock
    exact bodyPost_end (v:=.tuple #[]) (by simp[results,Tryz.results41]) (by kernel_rfl) ⟨by rw[HM.out];exact(endO_ok h).symm,by rw[HM.out];exact hd⟩
   ·exact .inr ⟨_,endO_bad h,by kernel_rfl,by rw[HM.out];exact(endO_bad h).symm,by rw[HM.out];exact hd⟩
  ·cases x1.symm.trans hx
theorem reck_shift{w1:World}{F0:Nat→Prop}{D b:Nat}{g:Int→Int}{cc dd:Sg}{t:Sta}{I:Ins}(ht:StaOk t)(hA:0≤I.a.disp∧I.a.disp<4294967296)(hB:0≤I.b.disp∧I.b.disp<4294967296)(hop:I.op=26∨I.op=27∨I.op=28∨I.op=29∨I.op=30)(w:World)(hD:DM w1 F0 D b g cc dd t I w):
  Calls Tryz.prog 41 #[.pointer (some ⟨D,0,none⟩)] w fun e w'=>e=endO (reckZ g dd t I).e∧DM w1 F0 D b (reckZ g dd t I).g cc dd (reckZ g dd t I).t I w':=by
 have HBO:=Lib.hid (fun u (h:DM w1 F0 D b g cc dd t I u)=>both_any15 ht hA hB u h)
 have HKE:=Lib.hid (fun v v0 v1 c p z s o d u (h:DM w1 F0 D b g cc dd t I u)=>keep_any15 ht hA v v0 v1 c p z s o d u h)
 have HOK:=Lib.hid (fun K h k=>twoZ_ok (g:=g) (dd:=dd) (t:=t) (I:=I) (K:=K) h k)
 have HNO:=Lib.hid (fun K h=>twoZ_bad (g:=g) (dd:=dd) (t:=t) (I:=I) (K:=K) h)
 have hx:=cut_lo (aldV g dd t I.a I.size) I.size
 have hx1:=cut_hi (aldV g dd t I.a I.size) I.size
 have hy:=cut_lo (aldV g dd t I.b I.size) I.size
 have hy1:=cut_hi (aldV g dd t I.b I.size) I.size
 rw[show cut (aldV g dd t I.a I.size) I.size=lodV g dd t I.a I.size from rfl]at hx hx1
 rw[show cut (aldV g dd t I.b I.size) I.size=lodV g dd t I.b I.size from rfl]at hy hy1
 obtain⟨Ea,h1⟩:∃E,aldE dd t I.a I.size=E:=⟨_,rfl⟩
 obtain⟨x,h2⟩:∃X,lodV g dd t I.a I.size=X:=⟨_,rfl⟩
 obtain⟨Eb,h3⟩:∃E,aldE dd t I.b I.size=E:=⟨_,rfl⟩
 obtain⟨y,h4⟩:∃X,lodV g dd t I.b I.size=X:=⟨_,rfl⟩
 rw[h1,h2,h3,h4]at HBO HOK
 rw[h1,h3]at HNO
 rw[h2]at hx hx1
 rw[h4]at hy hy1
 have HD:=Lib.hid hD
 have HB:=Lib.hid (show ¬(Ea=0∧Eb=0)→reckZ g dd t I=⟨2,t,g⟩from fun e=>(show reckZ g dd t I=shiftZ g dd t I from(by unfold reckZ;rw[if_neg (by omega),if_neg (by omega),if_neg (by omega),if_neg (by omega),if_neg (by omega),if_neg (by omega),if_neg (by omega),if_neg (by omega),if_neg (by omega),if_pos hop])).trans (HNO.out _ e))
 have HZ:=Lib.hid (show Ea=0∧Eb=0→reckZ g dd t I=keepZ g dd t I (shV I.op x (y%32).toNat) (sfC I.op x (y%32).toNat t.c) (sfP I.op x (y%32).toNat t.p) (sfZ I.op x (y%32).toNat t.z) (sfS I.op x (y%32).toNat t.s) (sfO I.op x (y%32).toNat t.o)from fun e=>(show reckZ g dd t I=shiftZ g dd t I from(by unfold reckZ;rw[if_neg (by omega),if_neg (by omega),if_neg (by omega),if_neg (by omega),if_neg (by omega),if_neg (by omega),if_neg (by omega),if_neg (by omega),if_neg (by omega),if_pos hop])).trans (HOK.out _ e.1 e.2))
 have HKF:=Lib.hid (fun u (hu:DM w1 F0 D b g cc dd t I u)=>keep_fl15 ht hA (shV I.op x (y%32).toNat) (shV_lo _ _ _ hx) (shV_hi _ _ _ (by omega) hx hx1) (sfC I.op x (y%32).toNat t.c) (sfP I.op x (y%32).toNat t.p) (sfZ I.op x (y%32).toNat t.z) (sfS I.op x (y%32).toNat t.s) (sfO I.op x (y%32).toNat t.o) t.d u hu)
 have HSD:=Lib.hid (show ∀u,Calls Tryz.prog 73 #[.int .i64 I.op,.agg (flL t.c t.p t.z t.s t.o t.d).toArray,.int .u32 x,.int .u32 y] u fun e u'=>e=.returned (.tuple #[.int .u32 (shV I.op x (y%32).toNat),.agg (flL (sfC I.op x (y%32).toNat t.c) (sfP I.op x (y%32).toNat t.p) (sfZ I.op x (y%32).toNat t.z) (sfS I.op x (y%32).toNat t.s) (sfO I.op x (y%32).toNat t.o) t.d).toArray])∧Below u.heap.size u u' from fun u=>do_any I.op _ _ _ _ _ _ x y hx hx1 hy hy1 u)
 obtain⟨M,hM⟩:∃M,keepZ g dd t I (shV I.op x (y%32).toNat) (sfC I.op x (y%32).toNat t.c) (sfP I.op x (y%32).toNat t.p) (sfZ I.op x (y%32).toNat t.z) (sfS I.op x (y%32).toNat t.s) (sfO I.op x (y%32).toNat t.o)=M:=⟨_,rfl⟩
 rw[hM]at HKF HZ
 clear hM HKE HOK HNO h1 h2 h3 h4 ht hA hB hD hx hx1 hy hy1
 generalize shV I.op x (y%32).toNat=A at HKF HSD
 generalize sfC I.op x (y%32).toNat t.c=q1 at HKF HSD
 generalize sfP I.op x (y%32).toNat t.p=q2 at HKF HSD
 generalize sfZ I.op x (y%32).toNat t.z=q3 at HKF HSD
 generalize sfS I.op x (y%32).toNat t.s=q4 at HKF HSD
 generalize sfO I.op x (y%32).toNat t.o=q5 at HKF HSD
 by_cases hE:Ea=0∧Eb=0
 ·have HM:=Lib.hid (HZ.out hE)
  have HBB:=Lib.hid (endB_ok (Xa:=x) (Xb:=y) hE.1 hE.2)
  rw[HBB.out]at HBO
  clear hE HBB HB HZ
  rcases hop with h|h|h|h|h
  all_goals
   have c0:=HD.out.op
   rw[h]at c0
   go_enter Tryz.func41,Tryz.ntmps41
   go_wp2_with fail
   ((with_reducible refine(HBO.out _ HD.out).mono ?_);rintro e w2 ⟨rfl,b1⟩)
   have HD1:=Lib.hid (HD.out.below b1)
   clear b1
   go_wp2_with fail
   clear c0 h
   refine wp_region_autoT (by kernel_rfl) 16 _ rfl rfl (by kernel_rfl) (fun n=>false) (by kernel_rfl) (DB w2 w1 F0 D b g cc dd t I) [some (.pointer (some ⟨D,0,none⟩)),some (.pointer (some ⟨D,0,none⟩)),some (.pointer (some ⟨D,0,none⟩)),some (.pointer (some ⟨D,0,none⟩)),some (.pointer (some ⟨D,0,none⟩)),some (.int .i64 (I.op)),some (.pointer (some ⟨D,0,none⟩)),some (.pointer (some ⟨D,0,none⟩)),some (.pointer (some ⟨D,19,none⟩)),some (.pointer (some ⟨D,28,none⟩)),some (.agg (flL t.c t.p t.z t.s t.o t.d).toArray),some (.int .u32 (x)),some (.int .u32 (y)),some (.tuple #[.int .u32 (A),.agg (flL q1 q2 q3 q4 q5 t.d).toArray]),some (.int .u32 (A)),some (.agg (flL q1 q2 q3 q4 q5 t.d).toArray),none]
    [(2,1,111),(3,2,112),(4,3,113),(5,4,114),(7,6,116),(8,7,117),(9,8,118),(10,9,119),(14,13,123),(15,13,123)] [(0,0),(1,0),(6,0),(11,2),(12,3)] [13] (by decide) ?_ ?_ (DB.start HD1.out) ?_ ?_
   ·repeat' apply And.intro
    all_goals first
     |trivial
     |exact⟨_,rfl,by kernel_rfl,rfl,rfl,rfl,fun _=>rfl,fun _ h=>⟨_,rfl,fun _ _=>by cases h;rfl⟩⟩
     |exact⟨_,rfl,by kernel_rfl,rfl,rfl,rfl,fun _=>rfl,fun _ h=>⟨_,rfl,fun _ hu=>by cases h;exact ld1 (lo_fls hu.dm)⟩⟩
     |exact⟨_,rfl,by kernel_rfl,rfl,rfl,rfl,fun _=>rfl,fun _ h=>⟨_,rfl,fun _ hu=>by cases h;exact ld1 (lo_op hu.dm)⟩⟩
   ·repeat' apply And.intro
    all_goals first
     |trivial
     |exact⟨_,rfl,by kernel_rfl,rfl,fun _=>rfl,_,rfl,fun _ _=>rfl⟩
   ·intro n op f u hn ho hinv hdf hbase hdep
    obtain rfl:n=13:=by simpa using hn
    ·cases ho
     have e115:f.tmps.getD 115 undef=.int .i64 (I.op):=tab_at (hdep 5 (by kernel_rfl))
     have e120:f.tmps.getD 120 undef=.agg (flL t.c t.p t.z t.s t.o t.d).toArray:=tab_at (hdep 10 (by kernel_rfl))
     have e121:f.tmps.getD 121 undef=.int .u32 (x):=tab_at (hdep 11 (by kernel_rfl))
     have e122:f.tmps.getD 122 undef=.int .u32 (y):=tab_at (hdep 12 (by kernel_rfl))
     refine wp_call (by simp[execOp,Act.eval,e115,e120,e121,e122,go_sem]<;>rfl) ((HSD.out u).mono ?_)
     rintro e u2 ⟨rfl,hb⟩
     exact⟨_,rfl,_,rfl,hinv.below hb,rfl⟩
   ·intro f u hinv hV
    have c0:f 0=.pointer (some ⟨D,0,none⟩):=tab_at (hV 0 (by decide))
    have c14:f 14=.int .u32 (A):=tab_at (hV 14 (by decide))
    have c15:f 15=.agg (flL q1 q2 q3 q4 q5 t.d).toArray:=tab_at (hV 15 (by decide))
    refine wp_call_or (f:=66) (args:=#[f 0,f 14,f 15]) (by kernel_rfl) ?_
    rw[c0,c14,c15]
    refine(HKF.out u hinv.dm).mono ?_
    rintro e u2 ⟨rfl,hd⟩
    by_cases h:M.e=0
    ·refine .inl ⟨_,endO_ok h,?_⟩
     unfold Exit.inBlock
     exact bodyPost_end (v:=.tuple #[]) (by simp[results,Tryz.results41]) (by kernel_rfl) ⟨by rw[HM.out];exact(endO_ok h).symm,by rw[HM.out];exact hd⟩
    ·exact .inr ⟨_,endO_bad h,by kernel_rfl,by rw[HM.out];exact(endO_bad h).symm,by rw[HM.out];exact hd⟩
 ·have HM:=Lib.hid (HB.out hE)
  rw[endB_bad hE]at HBO
  clear hE HB HZ
  rcases hop with h|h|h|h|h
  all_goals
   have c0:=HD.out.op
   rw[h]at c0
   clear h
   go_enter Tryz.func41,Tryz.ntmps41
   go_wp2_with fail
   ((with_reducible refine(HBO.out _ HD.out).mono ?_);rintro e w2 ⟨rfl,b1⟩)
   have HD1:=Lib.hid (HD.out.below b1)
   clear b1
   exact⟨rfl,by rw[HM.out];rfl,by rw[HM.out];exact HD1.out⟩
theorem reckon_any15{w1:World}{F0:Nat→Prop}{D b:Nat}{g:Int→Int}{cc dd:Sg}{t:Sta}{I:Ins}(ht:StaOk t)(hA:0≤I.a.disp∧I.a.disp<4294967296)(hB:0≤I.b.disp∧I.b.disp<4294967296)(hC:0≤I.c∧I.c<4294967296)(k0:-9223372036854775808≤I.cond)(k1:I.cond≤9223372036854775807)(hop:isAluB I.op=true)(w:World)(hD:DM w1 F0 D b g cc dd t I w):
  Calls Tryz.prog 41 #[.pointer (some ⟨D,0,none⟩)] w fun e w'=>e=endO (reckZ g dd t I).e∧DM w1 F0 D b (reckZ g dd t I).g cc dd (reckZ g dd t I).t I w':=by
 unfold isAluB at hop
 simp only[Bool.and_eq_true,Bool.or_eq_true,Bool.not_eq_true',Bool.or_eq_false_iff,beq_iff_eq,beq_eq_false_iff_ne,decide_eq_true_eq]at hop
 by_cases h:I.op=1∨I.op=3∨I.op=6∨I.op=4∨I.op=8
 ·exact reck_sum ht hA hB h w hD
 by_cases h:I.op=5∨I.op=2∨I.op=7∨I.op=9
 ·exact reck_logic ht hA hB h w hD
 by_cases h:I.op=10
 ·exact reck_not ht hA hB h w hD
 by_cases h:I.op=11
 ·exact reck_neg ht hA hB h w hD
 by_cases h:I.op=16
 ·exact reck_inc ht hA hB h w hD
 by_cases h:I.op=17
 ·exact reck_dec ht hA hB h w hD
 by_cases h:I.op=12∨I.op=13
 ·exact reck_product ht hA hB h w hD
 by_cases h:I.op=14∨I.op=15
 ·exact reck_quotient ht hA hB h w hD
 by_cases h:I.op=25
 ·exact reck_times ht hA hB h hC w hD
 by_cases h:I.op=26∨I.op=27∨I.op=28∨I.op=29∨I.op=30
 ·exact reck_shift ht hA hB h w hD
 by_cases h:I.op=41∨I.op=42∨I.op=43∨I.op=44∨I.op=45
 ·exact reck_mark ht hA hB h w hD
 exact reck_move ht hA hB (by omega) k0 k1 w hD
end Go.Proofs.YtmdncgfheeijaaaGreat
