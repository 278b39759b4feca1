/- GS49: Open OpenI -/
import Derived.Test.YtekhdklbfincpaaGreatDoorGS01
import Derived.Test.YtekhdklbfincpaaGreatDoorGS45
import Derived.Laws.IdiomArrays
import Derived.Test.YtekhdklbfincpaaGreatDoorGS46
set_option maxRecDepth 100000
set_option maxHeartbeats 16000000
namespace Go.Proofs.YtekhdklbfincpaaGreatDoor
open Go.DataW renaming trod_int→M0,trod→M1
open Go.IntKind renaming signed→M2
open Go.ChangeShapes Go.WideShapes Go.ChangeAt Go.RowKit
theorem laidOut:laidOutB Tryz.prog=true:=by kernel_rfl
theorem cells44:Tryz.prog.cellsOf 44=4:=by kernel_rfl
theorem cells42:Tryz.prog.cellsOf 42=3:=by kernel_rfl
theorem cells41:Tryz.prog.cellsOf 41=1:=by kernel_rfl
theorem cells5:Tryz.prog.cellsOf 5=1:=by kernel_rfl
section
variable {H:Type} {enc:TypeId × Value->H} {W:World} {base:Nat} {spare:Nat->Bool} {held:Bool}
theorem list4{α:Type}{l:List α}(h:l.length=4):∃a b c d,l=[a,b,c,d]:=by
 match l,h with
 | [a,b,c,d],_=>exact⟨a,b,c,d,rfl⟩
theorem wf_i8{n:Int}(h:(Lit.int .i8 n).wf=true):-128<=n/\n<=127:=by
 simp[Lit.wf,IntKind.min,IntKind.max,M2,IntKind.bits]at h;omega
theorem wf_u8{n:Int}(h:(Lit.int .u8 n).wf=true):0<=n/\n<=255:=by
 simp[Lit.wf,IntKind.min,IntKind.max,M2,IntKind.bits]at h;omega
theorem wf_i64{n:Int}(h:(Lit.int .i64 n).wf=true):I64 n:=by
 simp[Lit.wf,IntKind.min,IntKind.max,M2,IntKind.bits]at h;exact⟨by omega,by omega⟩
theorem trod_small{fuel:Nat}{cs:List Value}{x:DataW H × List MemPlace}(h:M1 enc Tryz.prog W base spare held fuel 44 cs=some x) :
  ∃n0 n1 n2 d:Int,cs=[.int .i8 n0,.int .i8 n1,.int .i8 n2,.int .u8 d]/\Sm n0 n1 n2 d (d%6):=by
 obtain⟨y0,y1,n,_,hl,h0,h1⟩:=trod_struct2 Tryz.underlying44 h;rw[cells44]at hl;obtain⟨a,b,c,e,rfl⟩:=list4 hl;simp only[cells42,cells5]at h0 h1;obtain⟨_,_,_,m,_,g0,g1,g2⟩:=trod_array3 Tryz.underlying42 cells41 h0;obtain⟨n0,e0,_,w0⟩:=M0 Tryz.underlying41 g0;obtain⟨n1,e1,_,w1⟩:=M0 Tryz.underlying41 g1;obtain⟨n2,e2,_,w2⟩:=M0 Tryz.underlying41 g2;obtain⟨d,e3,_,w3⟩:=M0 Tryz.underlying5 h1;simp at e0 e1 e2 e3;subst e0 e1 e2 e3;exact⟨n0,n1,n2,d,rfl,(wf_i8 w0).1,(wf_i8 w0).2,(wf_i8 w1).1,(wf_i8 w1).2,(wf_i8 w2).1,(wf_i8 w2).2,(wf_u8 w3).1,(wf_u8 w3).2,rfl⟩
theorem open_small{r:Reach}{b0:Nat}{v:Value}{d:DataW H}{p:List MemPlace}(hv:Value.okWide Tryz.prog W r b0 44 v)(h:DataW.Trod enc Tryz.prog W base spare held 44 v d p) :
  ∃n0 n1 n2 d:Int,v=smV n0 n1 n2 d/\Sm n0 n1 n2 d (d%6):=by
 obtain⟨cs,rfl,hsz⟩:=okWide_struct Tryz.underlying44 hv;obtain⟨fuel,hf⟩:=h;obtain⟨n0,n1,n2,d,e,hs⟩:=trod_small hf;refine⟨n0,n1,n2,d,?_,hs⟩;obtain⟨l⟩:=cs;simp[Value.cells]at e;rw[e];rfl
end
theorem cells54:Tryz.prog.cellsOf 54=2:=by kernel_rfl
theorem cells3:Tryz.prog.cellsOf 3=1:=by kernel_rfl
theorem list2{α:Type}{l:List α}(h:l.length=2):∃a b,l=[a,b]:=by
 match l,h with
 | [a,b],_=>exact⟨a,b,rfl⟩
section
variable {H:Type} {enc:TypeId × Value->H} {W:World} {base:Nat} {spare:Nat->Bool} {held:Bool}
theorem trod_two{t e:TypeId}{fuel:Nat}{a b:Value}{x:DataW H × List MemPlace}(ht:Tryz.prog.underlying t=some (.array 2 e))(he:Tryz.prog.cellsOf e=1)(h:M1 enc Tryz.prog W base spare held fuel t [a,b]=some x) :
  ∃n y z,M1 enc Tryz.prog W base spare held n e [a]=some y/\M1 enc Tryz.prog W base spare held n e [b]=some z:=by
 rcases fuel with _|n
 ·simp[M1]at h
 ·simp[M1,ht,he,show List.range 2=[0,1]from rfl]at h;have h':=h.2;rcases ea:M1 enc Tryz.prog W base spare held n e [a]with _|y
  ·simp[ea]at h'
  ·rcases eb:M1 enc Tryz.prog W base spare held n e [b]with _|z
   ·simp[ea,eb]at h'
   ·exact⟨n,y,z,ea,eb⟩
theorem open_ints2{r:Reach}{b0:Nat}{v:Value}{d:DataW H}{p:List MemPlace}(hv:Value.okWide Tryz.prog W r b0 54 v)(h:DataW.Trod enc Tryz.prog W base spare held 54 v d p) :
  ∃n0 n1:Int,v= .agg #[.int .i64 n0,.int .i64 n1]/\I64 n0/\I64 n1:=by
 simp only[Value.okWide,Tryz.underlying54]at hv;obtain⟨cs,rfl,hsz,_⟩:=hv;rw[cells54]at hsz;obtain⟨l⟩:=cs;obtain⟨a,b,rfl⟩:=list2 (by simpa using hsz);obtain⟨fuel,hf⟩:=h;obtain⟨m,y0,y1,g0,g1⟩:=trod_two Tryz.underlying54 cells3 (by simpa[Value.cells]using hf);obtain⟨n0,e0,_,w0⟩:=M0 Tryz.underlying3 g0;obtain⟨n1,e1,_,w1⟩:=M0 Tryz.underlying3 g1;simp at e0 e1;subst e0 e1;exact⟨n0,n1,rfl,wf_i64 w0,wf_i64 w1⟩
end
