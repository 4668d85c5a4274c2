/- Whatever the registers,the flags and the operands,AluRegs answers true,and its input reads as it did: what each operation makes of two registers. -/
import Derived.Test.YtmdncgfheeijaaaGreatKVG35
import Derived.Test.YtmdncgfheeijaaaGreatKVG45
import Derived.Test.YtmdncgfheeijaaaGreatKVG50
import Derived.Test.YtmdncgfheeijaaaGreatKVG53
namespace Go.Proofs.YtmdncgfheeijaaaGreat
open Go.ChangeShapes Go.WideShapes Go.ChangeAt Go.RowKit
set_option maxRecDepth 100000
theorem aluregs_w(p0:Nat→Int)(p1:Nat→Int)(p2:Int)(p3:Int)(p4:Int)(p5:Int)(w:World)(hp0:∀i,i<8→0≤p0 i∧p0 i<4294967296)(hp1:∀i,i<8→0≤p1 i∧p1 i<18446744073709551616)(p20:0≤p2)(p21:p2<256)(p30:0≤p3)(p31:p3<256)(p40:0≤p4)(p41:p4<256)(p50:0≤p5)(p51:p5<4294967296):Calls Tryz.prog 4 #[.agg (rowL_u32 p0).toArray,.agg (rowL_u64 p1).toArray,.int .u8 p2,.int .u8 p3,.int .u8 p4,.int .u32 p5] w fun e w'=>e=.returned (.bool true)∧Below w.heap.size w w':=
 aluregs_walk do15_any is15_any one15_any ralu15_any p0 p1 p2 p3 p4 p5 hp0 hp1 p20 p21 p30 p31 p40 p41 p50 p51 w
theorem aluRegs_own:ownKnob Tryz.prog.godebug=none:=by kernel_rfl
theorem aluRegs_lifted(os:Os)(started:os.Started)(H:Type)(enc:TypeId×Value→H):
  ReturnsInHanded {} Tryz.checked os 4 .any (Rows.aluRegsSpec.pre6 enc Tryz.prog Tryz.f4 Rows.aluRegsRow.domain false) (Rows.aluRegsSpec.post enc Tryz.prog Tryz.f4 false true false false):=by
 refine returnsInHanded_of_change (C:=Tryz.checked) aluRegs_own started (by kernel_rfl) Tryz.func4
  (ChangeSpec.witness6 (enc:=enc) (C:=Tryz.checked) false ⟨#[],#[.agg #[.int .u32 0,.int .u32 0,.int .u32 0,.int .u32 0,.int .u32 0,.int .u32 0,.int .u32 0,.int .u32 0],.agg #[.int .u64 0,.int .u64 0,.int .u64 0,.int .u64 0,.int .u64 0,.int .u64 0,.int .u64 0,.int .u64 0],.int .u8 0,.int .u8 0,.int .u8 0,.int .u32 0],[]⟩ 8 (by kernel_rfl) (by kernel_rfl) (by kernel_rfl) (by kernel_rfl)) ?_
 intro W base args ds gs before hval0 hW hcnd _
 have hval:∀(j:Nat) t v,Tryz.f4.params[j]?=some t→args[j]?=some v→Value.okWide Tryz.prog W .any base t v:=hval0
 have hW':=hW
 obtain⟨p,q,hA0,hV,rfl,hfz,hnd⟩:=hW
 have hA:DataW.TrodAll enc Tryz.prog W 0 (fun _=>true) true Tryz.f4.params.toList args.toList ds p:=hA0
 rw[Tryz.params4]at hA hval
 obtain⟨v0,vs0,d0,ds0,p0,q0,hargs,rfl,rfl,h0,r0⟩:=trodAll_cons hA
 obtain⟨v1,vs1,d1,ds1,p1,q1,rfl,rfl,rfl,h1,r1⟩:=trodAll_cons r0
 obtain⟨v2,vs2,d2,ds2,p2,q2,rfl,rfl,rfl,h2,r2⟩:=trodAll_cons r1
 obtain⟨v3,vs3,d3,ds3,p3,q3,rfl,rfl,rfl,h3,r3⟩:=trodAll_cons r2
 obtain⟨v4,vs4,d4,ds4,p4,q4,rfl,rfl,rfl,h4,r4⟩:=trodAll_cons r3
 obtain⟨v5,vs5,d5,ds5,p5,q5,rfl,rfl,rfl,h5,r5⟩:=trodAll_cons r4
 obtain⟨rfl,rfl,rfl⟩:=trodAll_nil r5
 obtain rfl:args=#[v0,v1,v2,v3,v4,v5]:=by cases args;simp_all
 obtain⟨rfl,rfl⟩:=trodVars_none hV
 obtain⟨a0,rfl,rfl,rfl,w0⟩:=open_rowu32 (hval 0 23 v0 rfl rfl) h0
 obtain⟨a1,rfl,rfl,rfl,w1⟩:=open_rowu64 (hval 1 27 v1 rfl rfl) h1
 obtain⟨a2,rfl,rfl,rfl,w2⟩:=open_int Tryz.underlying5 (hval 2 5 v2 rfl rfl) h2
 obtain⟨a3,rfl,rfl,rfl,w3⟩:=open_int Tryz.underlying5 (hval 3 5 v3 rfl rfl) h3
 obtain⟨a4,rfl,rfl,rfl,w4⟩:=open_int Tryz.underlying5 (hval 4 5 v4 rfl rfl) h4
 obtain⟨a5,rfl,rfl,rfl,w5⟩:=open_int Tryz.underlying22 (hval 5 22 v5 rfl rfl) h5
 clear hA0 hval0
 simp only[List.append_nil]at hW'
 have b0:=row_u32_ok w0
 have b1:=row_u64_ok w1
 have b2:0≤a2∧a2<256:=by
  have h:=w2
  simp only[Lit.wf,Bool.and_eq_true,decide_eq_true_eq]at h
  have e1:IntKind.u8.min=0:=by decide
  have e2:IntKind.u8.max=255:=by decide
  omega
 have b3:0≤a3∧a3<256:=by
  have h:=w3
  simp only[Lit.wf,Bool.and_eq_true,decide_eq_true_eq]at h
  have e1:IntKind.u8.min=0:=by decide
  have e2:IntKind.u8.max=255:=by decide
  omega
 have b4:0≤a4∧a4<256:=by
  have h:=w4
  simp only[Lit.wf,Bool.and_eq_true,decide_eq_true_eq]at h
  have e1:IntKind.u8.min=0:=by decide
  have e2:IntKind.u8.max=255:=by decide
  omega
 have b5:0≤a5∧a5<4294967296:=by
  have h:=w5
  simp only[Lit.wf,Bool.and_eq_true,decide_eq_true_eq]at h
  have e1:IntKind.u32.min=0:=by decide
  have e2:IntKind.u32.max=4294967295:=by decide
  omega
 refine(aluregs_w a0 a1 a2 a3 a4 a5 W b0 b1 b2.1 b2.2 b3.1 b3.2 b4.1 b4.2 b5.1 b5.2).mono fun e W' ⟨he,hg⟩=>?_
 subst he
 exact⟨_,rfl,post_plain hW' hg (fun sp=>(trodAll_cons_mk (shut_rowu32 _ w0) (trodAll_cons_mk (shut_rowu64 _ w1) (trodAll_cons_mk (shut_int Tryz.underlying5 w2) (trodAll_cons_mk (shut_int Tryz.underlying5 w3) (trodAll_cons_mk (shut_int Tryz.underlying5 w4) (trodAll_cons_mk (shut_int Tryz.underlying22 w5) trodAll_mk0))))))) (fun _=>rfl)
  (fun _ _ _=>(trodAll_cons_mk (shut_bool Tryz.underlying4 _) trodAll_mk0)) (ok_one (by kernel_rfl) rfl (okWide_bool_mk Tryz.underlying4 _))⟩
theorem aluRegs_holds:Rows.AluRegsSaid:=
 OpenClaim.holds_of_wide 4 Tryz.f4 rfl rfl rfl rfl rfl rfl rfl ⟨rfl,rfl,rfl,rfl,rfl⟩ rfl rfl rfl rfl rfl (by kernel_rfl) Tryz.func4 (by kernel_rfl)
  (of_decide_eq_true (by kernel_rfl)) (by unfold Func.isWrapper;first|(rw[if_pos (by decide +kernel)];kernel_rfl)|(rw[if_neg (by decide +kernel)];exact⟨rfl,rfl⟩))
  (fun os started H enc _=>aluRegs_lifted os started H enc)
#print axioms aluRegs_holds
end Go.Proofs.YtmdncgfheeijaaaGreat
