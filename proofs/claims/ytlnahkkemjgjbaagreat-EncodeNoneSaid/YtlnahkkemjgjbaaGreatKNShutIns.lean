import Derived.Test.YtlnahkkemjgjbaaGreatKNX
namespace Go.Proofs.YtlnahkkemjgjbaaGreat
open Go.ChangeShapes Go.WideShapes Go.ChangeAt Go.RowKit
theorem cells_b:Tryz.prog.cellsOf 4=1:=by kernel_rfl
theorem cells_u:Tryz.prog.cellsOf 22=1:=by kernel_rfl
theorem cells_i:Tryz.prog.cellsOf 3=1:=by kernel_rfl
theorem cells_o:Tryz.prog.cellsOf 24=6:=by kernel_rfl
theorem cells_s:Tryz.prog.cellsOf 26=18:=by kernel_rfl
def opdD (H:Type) (o:Opd):DataW H:=.agg [.lit (.int .i64 o.kind),.lit (.int .i64 o.reg),.lit (.int .i64 o.base),.lit (.int .i64 o.index),.lit (.int .i64 o.scale),.lit (.int .u32 o.disp)]
def insD (H:Type) (x:Ins):DataW H:=.agg [.lit (.int .i64 x.op),.lit (.int .i64 x.cond),.lit (.int .i64 x.size),opdD H x.a,opdD H x.b,.lit (.int .u32 x.c),.lit (.bool x.rep),.lit (.int .i64 x.len)]
structure WfO (o:Opd):Prop where
  k:(.int .i64 o.kind:Lit).wf=true
  r:(.int .i64 o.reg:Lit).wf=true
  b:(.int .i64 o.base:Lit).wf=true
  i:(.int .i64 o.index:Lit).wf=true
  s:(.int .i64 o.scale:Lit).wf=true
  d:(.int .u32 o.disp:Lit).wf=true
structure WfI (x:Ins):Prop where
  o:(.int .i64 x.op:Lit).wf=true
  c:(.int .i64 x.cond:Lit).wf=true
  s:(.int .i64 x.size:Lit).wf=true
  a:WfO x.a
  b:WfO x.b
  v:(.int .u32 x.c:Lit).wf=true
  l:(.int .i64 x.len:Lit).wf=true
section
variable {H:Type} {enc:TypeId × Value→H} {w:World} {base:Nat} {spare:Nat→Bool} {held:Bool}
theorem shut_ins (x:Ins) (h:WfI x):DataW.Trod enc Tryz.prog w base spare held 26 (insV x) (insD H x) []:=by
  obtain ⟨h1,h2,h3,⟨a1,a2,a3,a4,a5,a6⟩,⟨b1,b2,b3,b4,b5,b6⟩,h4,h5⟩:=h
  exact ⟨4,by simp [insD,opdD,insV,insC,DataW.trod,Value.cells,Tryz.underlying26,Tryz.underlying24,Tryz.underlying4,Tryz.underlying22,Tryz.underlying3,cells_b,cells_u,cells_i,cells_o,cells_s,h1,h2,h3,h4,h5,a1,a2,a3,a4,a5,a6,b1,b2,b3,b4,b5,b6]⟩
theorem open_opd {n:Nat} {k0 k1 k2 k3 k4 k5:Value} {y:DataW H × List MemPlace} (h:DataW.trod enc Tryz.prog w base spare held n 24 [k0,k1,k2,k3,k4,k5]=some y):∃ o:Opd,(k0=.int .i64 o.kind∧k1=.int .i64 o.reg∧k2=.int .i64 o.base∧k3=.int .i64 o.index∧k4=.int .i64 o.scale∧k5=.int .u32 o.disp)∧y=(opdD H o,[])∧WfO o:=by
  obtain ⟨xs,n,_,hx,_,hlen,hg⟩:=DataW.trod_struct Tryz.underlying24 h
  match xs,hlen with
  | [y0,y1,y2,y3,y4,y5],_ =>
    have g0:=hg 0 _ rfl
    have g1:=hg 1 _ rfl
    have g2:=hg 2 _ rfl
    have g3:=hg 3 _ rfl
    have g4:=hg 4 _ rfl
    have g5:=hg 5 _ rfl
    simp [cells_i,cells_u] at g0 g1 g2 g3 g4 g5
    obtain ⟨a0,e0,rfl,w0⟩:=DataW.trod_int Tryz.underlying3 g0
    obtain ⟨a1,e1,rfl,w1⟩:=DataW.trod_int Tryz.underlying3 g1
    obtain ⟨a2,e2,rfl,w2⟩:=DataW.trod_int Tryz.underlying3 g2
    obtain ⟨a3,e3,rfl,w3⟩:=DataW.trod_int Tryz.underlying3 g3
    obtain ⟨a4,e4,rfl,w4⟩:=DataW.trod_int Tryz.underlying3 g4
    obtain ⟨a5,e5,rfl,w5⟩:=DataW.trod_int Tryz.underlying22 g5
    injection e0 with e0 _;subst e0
    injection e1 with e1 _;subst e1
    injection e2 with e2 _;subst e2
    injection e3 with e3 _;subst e3
    injection e4 with e4 _;subst e4
    injection e5 with e5 _;subst e5
    exact ⟨⟨a0,a1,a2,a3,a4,a5⟩,⟨rfl,rfl,rfl,rfl,rfl,rfl⟩,by rw [hx];rfl,w0,w1,w2,w3,w4,w5⟩
set_option maxRecDepth 10000
theorem open_ins {r:Reach} {b0:Nat} {v:Value} {x:DataW H} {ps:List MemPlace} (hv:Value.okWide Tryz.prog w r b0 26 v) (h:DataW.Trod enc Tryz.prog w base spare held 26 v x ps) :
    ∃ X:Ins,v=insV X∧x=insD H X∧ps=[]∧WfI X:=by
  obtain ⟨cs,rfl,hsz⟩:=okWide_struct Tryz.underlying26 hv
  obtain ⟨fuel,hf⟩:=h
  obtain ⟨xs,n,_,hx,_,hlen,hg⟩:=DataW.trod_struct Tryz.underlying26 hf
  obtain ⟨l⟩:=cs
  match l,hsz.trans cells_s,xs,hlen with
  | [k0,k1,k2,k3,k4,k5,k6,k7,k8,k9,k10,k11,k12,k13,k14,k15,k16,k17],_,[y0,y1,y2,y3,y4,y5,y6,y7],_ =>
    have g0:=hg 0 _ rfl
    have g1:=hg 1 _ rfl
    have g2:=hg 2 _ rfl
    have g3:=hg 3 _ rfl
    have g4:=hg 4 _ rfl
    have g5:=hg 5 _ rfl
    have g6:=hg 6 _ rfl
    have g7:=hg 7 _ rfl
    simp [Value.cells,cells_i,cells_u,cells_b,cells_o] at g0 g1 g2 g3 g4 g5 g6 g7
    obtain ⟨a0,e0,rfl,w0⟩:=DataW.trod_int Tryz.underlying3 g0
    obtain ⟨a1,e1,rfl,w1⟩:=DataW.trod_int Tryz.underlying3 g1
    obtain ⟨a2,e2,rfl,w2⟩:=DataW.trod_int Tryz.underlying3 g2
    obtain ⟨A,⟨rfl,rfl,rfl,rfl,rfl,rfl⟩,rfl,w3⟩:=open_opd g3
    obtain ⟨B,⟨rfl,rfl,rfl,rfl,rfl,rfl⟩,rfl,w4⟩:=open_opd g4
    obtain ⟨a5,e5,rfl,w5⟩:=DataW.trod_int Tryz.underlying22 g5
    obtain ⟨a6,e6,rfl⟩:=DataW.trod_bool Tryz.underlying4 g6
    obtain ⟨a7,e7,rfl,w7⟩:=DataW.trod_int Tryz.underlying3 g7
    injection e0 with e0 _;subst e0
    injection e1 with e1 _;subst e1
    injection e2 with e2 _;subst e2
    injection e5 with e5 _;subst e5
    injection e6 with e6 _;subst e6
    injection e7 with e7 _;subst e7
    simp only [Prod.mk.injEq] at hx
    exact ⟨⟨a0,a1,a2,A,B,a5,a6,a7⟩,rfl,by simpa [insD] using hx.1,by simpa using hx.2,w0,w1,w2,w3,w4,w5,w7⟩
end
end Go.Proofs.YtlnahkkemjgjbaaGreat
