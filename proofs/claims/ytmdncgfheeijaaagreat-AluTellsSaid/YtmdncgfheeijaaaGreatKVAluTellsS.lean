/- Whatever the state,the registers,the instruction and the memory,AluTells answers true,and its input reads as it did: what each instruction that reckons makes of them. -/
import Derived.Test.YtmdncgfheeijaaaGreatKVG35
import Derived.Test.YtmdncgfheeijaaaGreatKVG45
import Derived.Test.YtmdncgfheeijaaaGreatKVG49
import Derived.Test.YtmdncgfheeijaaaGreatKVG53
namespace Go.Proofs.YtmdncgfheeijaaaGreat
open Go.ChangeShapes Go.WideShapes Go.ChangeAt Go.RowKit
set_option maxRecDepth 100000
theorem alutells_w(p0:Sta)(p1:Nat→Int)(p2:Nat→Int)(p3:Int)(p4:Int)(p5:Int)(p6:Int)(p7:Int)(p8:Int)(w:World)(hp0:StaOk p0)(hp1:∀i,i<8→0≤p1 i∧p1 i<4294967296)(hp2:∀i,i<8→0≤p2 i∧p2 i<18446744073709551616)(p30:0≤p3)(p31:p3<256)(p40:0≤p4)(p41:p4<256)(p50:0≤p5)(p51:p5<256)(p60:0≤p6)(p61:p6<256)(p70:0≤p7)(p71:p7<4294967296)(p80:0≤p8)(p81:p8<4294967296):Calls Tryz.prog 3 #[staV p0,.agg (rowL_u32 p1).toArray,.agg (rowL_u64 p2).toArray,.int .u8 p3,.int .u8 p4,.int .u8 p5,.int .u8 p6,.int .u32 p7,.int .u32 p8] w fun e w'=>e=.returned (.bool true)∧Below w.heap.size w w':=
 alutells_walk do15_any is15_any one15_any ralu15_any p0 p1 p2 p3 p4 p5 p6 p7 p8 hp0 hp1 hp2 p30 p31 p40 p41 p50 p51 p60 p61 p70 p71 p80 p81 w
theorem aluTells_own:ownKnob Tryz.prog.godebug=none:=by kernel_rfl
theorem aluTells_lifted(os:Os)(started:os.Started)(H:Type)(enc:TypeId×Value→H):
  ReturnsInHanded {} Tryz.checked os 3 .any (Rows.aluTellsSpec.pre6 enc Tryz.prog Tryz.f3 Rows.aluTellsRow.domain false) (Rows.aluTellsSpec.post enc Tryz.prog Tryz.f3 false true false false):=by
 refine returnsInHanded_of_change (C:=Tryz.checked) aluTells_own started (by kernel_rfl) Tryz.func3
  (ChangeSpec.witness6 (enc:=enc) (C:=Tryz.checked) false ⟨#[],#[.agg #[.int .u32 0,.int .u32 0,.int .u32 0,.int .u32 0,.int .u32 0,.int .u32 0,.int .u32 0,.int .u32 0,.int .u32 0,.bool false,.bool false,.bool false,.bool false,.bool false,.bool false,.int .u64 0,.int .u64 0,.int .u64 0,.int .u64 0,.int .u64 0,.int .u64 0,.int .u64 0,.int .u64 0],.agg #[.int .u32 0,.int .u32 0,.int .u32 0,.int .u32 0,.int .u32 0,.int .u32 0,.int .u32 0,.int .u32 0],.agg #[.int .u64 0,.int .u64 0,.int .u64 0,.int .u64 0,.int .u64 0,.int .u64 0,.int .u64 0,.int .u64 0],.int .u8 0,.int .u8 0,.int .u8 0,.int .u8 0,.int .u32 0,.int .u32 0],[]⟩ 8 (by kernel_rfl) (by kernel_rfl) (by kernel_rfl) (by kernel_rfl)) ?_
 intro W base args ds gs before hval0 hW hcnd _
 have hval:∀(j:Nat) t v,Tryz.f3.params[j]?=some t→args[j]?=some v→Value.okWide Tryz.prog W .any base t v:=hval0
 have hW':=hW
 obtain⟨p,q,hA0,hV,rfl,hfz,hnd⟩:=hW
 have hA:DataW.TrodAll enc Tryz.prog W 0 (fun _=>true) true Tryz.f3.params.toList args.toList ds p:=hA0
 rw[Tryz.params3]at hA hval
 obtain⟨v0,vs0,d0,ds0,p0,q0,hargs,rfl,rfl,h0,r0⟩:=trodAll_cons hA
 obtain⟨v1,vs1,d1,ds1,p1,q1,rfl,rfl,rfl,h1,r1⟩:=trodAll_cons r0
 obtain⟨v2,vs2,d2,ds2,p2,q2,rfl,rfl,rfl,h2,r2⟩:=trodAll_cons r1
 obtain⟨v3,vs3,d3,ds3,p3,q3,rfl,rfl,rfl,h3,r3⟩:=trodAll_cons r2
 obtain⟨v4,vs4,d4,ds4,p4,q4,rfl,rfl,rfl,h4,r4⟩:=trodAll_cons r3
 obtain⟨v5,vs5,d5,ds5,p5,q5,rfl,rfl,rfl,h5,r5⟩:=trodAll_cons r4
 obtain⟨v6,vs6,d6,ds6,p6,q6,rfl,rfl,rfl,h6,r6⟩:=trodAll_cons r5
 obtain⟨v7,vs7,d7,ds7,p7,q7,rfl,rfl,rfl,h7,r7⟩:=trodAll_cons r6
 obtain⟨v8,vs8,d8,ds8,p8,q8,rfl,rfl,rfl,h8,r8⟩:=trodAll_cons r7
 obtain⟨rfl,rfl,rfl⟩:=trodAll_nil r8
 obtain rfl:args=#[v0,v1,v2,v3,v4,v5,v6,v7,v8]:=by cases args;simp_all
 obtain⟨rfl,rfl⟩:=trodVars_none hV
 obtain⟨a0,rfl,rfl,rfl,w0⟩:=open_sta (hval 0 29 v0 rfl rfl) h0
 obtain⟨a1,rfl,rfl,rfl,w1⟩:=open_rowu32 (hval 1 23 v1 rfl rfl) h1
 obtain⟨a2,rfl,rfl,rfl,w2⟩:=open_rowu64 (hval 2 27 v2 rfl rfl) h2
 obtain⟨a3,rfl,rfl,rfl,w3⟩:=open_int Tryz.underlying5 (hval 3 5 v3 rfl rfl) h3
 obtain⟨a4,rfl,rfl,rfl,w4⟩:=open_int Tryz.underlying5 (hval 4 5 v4 rfl rfl) h4
 obtain⟨a5,rfl,rfl,rfl,w5⟩:=open_int Tryz.underlying5 (hval 5 5 v5 rfl rfl) h5
 obtain⟨a6,rfl,rfl,rfl,w6⟩:=open_int Tryz.underlying5 (hval 6 5 v6 rfl rfl) h6
 obtain⟨a7,rfl,rfl,rfl,w7⟩:=open_int Tryz.underlying22 (hval 7 22 v7 rfl rfl) h7
 obtain⟨a8,rfl,rfl,rfl,w8⟩:=open_int Tryz.underlying22 (hval 8 22 v8 rfl rfl) h8
 clear hA0 hval0
 simp only[List.append_nil]at hW'
 have b0:=wf_ok w0
 have b1:=row_u32_ok w1
 have b2:=row_u64_ok w2
 have b3:0≤a3∧a3<256:=by
  have h:=w3
  simp only[Lit.wf,Bool.and_eq_true,decide_eq_true_eq]at h
  have e1:IntKind.u8.min=0:=by decide
  have e2:IntKind.u8.max=255:=by decide
  omega
 have b4:0≤a4∧a4<256:=by
  have h:=w4
  simp only[Lit.wf,Bool.and_eq_true,decide_eq_true_eq]at h
  have e1:IntKind.u8.min=0:=by decide
  have e2:IntKind.u8.max=255:=by decide
  omega
 have b5:0≤a5∧a5<256:=by
  have h:=w5
  simp only[Lit.wf,Bool.and_eq_true,decide_eq_true_eq]at h
  have e1:IntKind.u8.min=0:=by decide
  have e2:IntKind.u8.max=255:=by decide
  omega
 have b6:0≤a6∧a6<256:=by
  have h:=w6
  simp only[Lit.wf,Bool.and_eq_true,decide_eq_true_eq]at h
  have e1:IntKind.u8.min=0:=by decide
  have e2:IntKind.u8.max=255:=by decide
  omega
 have b7:0≤a7∧a7<4294967296:=by
  have h:=w7
  simp only[Lit.wf,Bool.and_eq_true,decide_eq_true_eq]at h
  have e1:IntKind.u32.min=0:=by decide
  have e2:IntKind.u32.max=4294967295:=by decide
  omega
 have b8:0≤a8∧a8<4294967296:=by
  have h:=w8
  simp only[Lit.wf,Bool.and_eq_true,decide_eq_true_eq]at h
  have e1:IntKind.u32.min=0:=by decide
  have e2:IntKind.u32.max=4294967295:=by decide
  omega
 refine(alutells_w a0 a1 a2 a3 a4 a5 a6 a7 a8 W b0 b1 b2 b3.1 b3.2 b4.1 b4.2 b5.1 b5.2 b6.1 b6.2 b7.1 b7.2 b8.1 b8.2).mono fun e W' ⟨he,hg⟩=>?_
 subst he
 exact⟨_,rfl,post_plain hW' hg (fun sp=>(trodAll_cons_mk (shut_sta _ w0) (trodAll_cons_mk (shut_rowu32 _ w1) (trodAll_cons_mk (shut_rowu64 _ w2) (trodAll_cons_mk (shut_int Tryz.underlying5 w3) (trodAll_cons_mk (shut_int Tryz.underlying5 w4) (trodAll_cons_mk (shut_int Tryz.underlying5 w5) (trodAll_cons_mk (shut_int Tryz.underlying5 w6) (trodAll_cons_mk (shut_int Tryz.underlying22 w7) (trodAll_cons_mk (shut_int Tryz.underlying22 w8) trodAll_mk0)))))))))) (fun _=>rfl)
  (fun _ _ _=>(trodAll_cons_mk (shut_bool Tryz.underlying4 _) trodAll_mk0)) (ok_one (by kernel_rfl) rfl (okWide_bool_mk Tryz.underlying4 _))⟩
theorem aluTells_holds:Rows.AluTellsSaid:=
 OpenClaim.holds_of_wide 3 Tryz.f3 rfl rfl rfl rfl rfl rfl rfl ⟨rfl,rfl,rfl,rfl,rfl⟩ rfl rfl rfl rfl rfl (by kernel_rfl) Tryz.func3 (by kernel_rfl)
  (of_decide_eq_true (by kernel_rfl)) (by unfold Func.isWrapper;first|(rw[if_pos (by decide +kernel)];kernel_rfl)|(rw[if_neg (by decide +kernel)];exact⟨rfl,rfl⟩))
  (fun os started H enc _=>aluTells_lifted os started H enc)
#print axioms aluTells_holds
end Go.Proofs.YtmdncgfheeijaaaGreat
