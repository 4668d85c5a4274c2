/- Whatever the two numbers,AluCarries answers true,and its input reads as it did: sums of two words with a carry between. -/
import Derived.Test.YtmdncgfheeijaaaGreatKUG33
import Derived.Test.YtmdncgfheeijaaaGreatKUG46
import Derived.Test.YtmdncgfheeijaaaGreatKUG53
namespace Go.Proofs.YtmdncgfheeijaaaGreat
open Go.ChangeShapes Go.WideShapes Go.ChangeAt Go.RowKit
set_option maxRecDepth 100000
theorem alucarries_w(p0:Int)(p1:Int)(w:World)(p00:0≤p0)(p01:p0<18446744073709551616)(p10:0≤p1)(p11:p1<18446744073709551616):Calls Tryz.prog 7 #[.int .u64 p0,.int .u64 p1] w fun e w'=>e=.returned (.bool true)∧Below w.heap.size w w':=
 alucarries_walk do15_any is15_any one15_any p0 p1 p00 p01 p10 p11 w
theorem aluCarries_own:ownKnob Tryz.prog.godebug=none:=by kernel_rfl
theorem aluCarries_lifted(os:Os)(started:os.Started)(H:Type)(enc:TypeId×Value→H):
  ReturnsInHanded {} Tryz.checked os 7 .any (Rows.aluCarriesSpec.pre6 enc Tryz.prog Tryz.f7 Rows.aluCarriesRow.domain false) (Rows.aluCarriesSpec.post enc Tryz.prog Tryz.f7 false true false false):=by
 refine returnsInHanded_of_change (C:=Tryz.checked) aluCarries_own started (by kernel_rfl) Tryz.func7
  (ChangeSpec.witness6 (enc:=enc) (C:=Tryz.checked) false ⟨#[],#[.int .u64 0,.int .u64 0],[]⟩ 8 (by kernel_rfl) (by kernel_rfl) (by kernel_rfl) (by kernel_rfl)) ?_
 intro W base args ds gs before hval0 hW hcnd _
 have hval:∀(j:Nat) t v,Tryz.f7.params[j]?=some t→args[j]?=some v→Value.okWide Tryz.prog W .any base t v:=hval0
 have hW':=hW
 obtain⟨p,q,hA0,hV,rfl,hfz,hnd⟩:=hW
 have hA:DataW.TrodAll enc Tryz.prog W 0 (fun _=>true) true Tryz.f7.params.toList args.toList ds p:=hA0
 rw[Tryz.params7]at hA hval
 obtain⟨v0,vs0,d0,ds0,p0,q0,hargs,rfl,rfl,h0,r0⟩:=trodAll_cons hA
 obtain⟨v1,vs1,d1,ds1,p1,q1,rfl,rfl,rfl,h1,r1⟩:=trodAll_cons r0
 obtain⟨rfl,rfl,rfl⟩:=trodAll_nil r1
 obtain rfl:args=#[v0,v1]:=by cases args;simp_all
 obtain⟨rfl,rfl⟩:=trodVars_none hV
 obtain⟨a0,rfl,rfl,rfl,w0⟩:=open_int Tryz.underlying26 (hval 0 26 v0 rfl rfl) h0
 obtain⟨a1,rfl,rfl,rfl,w1⟩:=open_int Tryz.underlying26 (hval 1 26 v1 rfl rfl) h1
 clear hA0 hval0
 simp only[List.append_nil]at hW'
 have b0:0≤a0∧a0<18446744073709551616:=by
  have h:=w0
  simp only[Lit.wf,Bool.and_eq_true,decide_eq_true_eq]at h
  have e1:IntKind.u64.min=0:=by decide
  have e2:IntKind.u64.max=18446744073709551615:=by decide
  omega
 have b1:0≤a1∧a1<18446744073709551616:=by
  have h:=w1
  simp only[Lit.wf,Bool.and_eq_true,decide_eq_true_eq]at h
  have e1:IntKind.u64.min=0:=by decide
  have e2:IntKind.u64.max=18446744073709551615:=by decide
  omega
 refine(alucarries_w a0 a1 W b0.1 b0.2 b1.1 b1.2).mono fun e W' ⟨he,hg⟩=>?_
 subst he
 exact⟨_,rfl,post_plain hW' hg (fun sp=>(trodAll_cons_mk (shut_int Tryz.underlying26 w0) (trodAll_cons_mk (shut_int Tryz.underlying26 w1) trodAll_mk0))) (fun _=>rfl)
  (fun _ _ _=>(trodAll_cons_mk (shut_bool Tryz.underlying4 _) trodAll_mk0)) (ok_one (by kernel_rfl) rfl (okWide_bool_mk Tryz.underlying4 _))⟩
theorem aluCarries_holds:Rows.AluCarriesSaid:=
 OpenClaim.holds_of_wide 7 Tryz.f7 rfl rfl rfl rfl rfl rfl rfl ⟨rfl,rfl,rfl,rfl,rfl⟩ rfl rfl rfl rfl rfl (by kernel_rfl) Tryz.func7 (by kernel_rfl)
  (of_decide_eq_true (by kernel_rfl)) (by unfold Func.isWrapper;first|(rw[if_pos (by decide +kernel)];kernel_rfl)|(rw[if_neg (by decide +kernel)];exact⟨rfl,rfl⟩))
  (fun os started H enc _=>aluCarries_lifted os started H enc)
#print axioms aluCarries_holds
end Go.Proofs.YtmdncgfheeijaaaGreat
