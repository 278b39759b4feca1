/- GC49: Open OpenV -/
import Derived.Test.YtekhdklbfincpaaGreatDoorGC01
import Derived.Test.YtekhdklbfincpaaGreatDoorGC43
import Derived.Laws.IdiomArrays
import Derived.Test.YtekhdklbfincpaaGreatDoorGC47
set_option maxRecDepth 100000
set_option maxHeartbeats 16000000
namespace Go.Proofs.YtekhdklbfincpaaGreatDoor
open Go.DataW renaming trod_int→M0
open Go.IntKind renaming signed→M1
open Go.ChangeShapes Go.WideShapes Go.ChangeAt Go.RowKit
theorem laidOut:laidOutB Tryz.prog=true:=by kernel_rfl
theorem NC:Tryz.prog.cellsOf 44=4:=by kernel_rfl
theorem ND:Tryz.prog.cellsOf 42=3:=by kernel_rfl
theorem NE:Tryz.prog.cellsOf 41=1:=by kernel_rfl
theorem Ma:Tryz.prog.cellsOf 5=1:=by kernel_rfl
section
variable {H:Type} {enc:TypeId × Value->H} {W:World} {base:Nat} {spare:Nat->Bool} {held:Bool}
theorem Mn{α:Type}{l:List α}(h:l.length=4):∃a b c d,l=[a,b,c,d]:=by
 match l,h with
 | [a,b,c,d],_=>exact⟨a,b,c,d,rfl⟩
theorem OX{n:Int}(h:(Lit.int .i8 n).wf=true):-128<=n/\n<=127:=by
 simp[Lit.wf,IntKind.min,IntKind.max,M1,IntKind.bits]at h;omega
theorem NL{n:Int}(h:(Lit.int .u8 n).wf=true):0<=n/\n<=255:=by
 simp[Lit.wf,IntKind.min,IntKind.max,M1,IntKind.bits]at h;omega
theorem KN{n:Int}(h:(Lit.int .i64 n).wf=true):I64 n:=by
 simp[Lit.wf,IntKind.min,IntKind.max,M1,IntKind.bits]at h;exact⟨by omega,by omega⟩
theorem KT{fuel:Nat}{cs:List Value}{x:DataW H × List MemPlace}(h:DataW.trod enc Tryz.prog W base spare held fuel 44 cs=some x) :
  ∃n0 n1 n2 d:Int,cs=[.int .i8 n0,.int .i8 n1,.int .i8 n2,.int .u8 d]/\Sm n0 n1 n2 d (d%6):=by
 obtain⟨y0,y1,n,_,hl,h0,h1⟩:=trod_struct2 Tryz.underlying44 h;rw[NC]at hl;obtain⟨a,b,c,e,rfl⟩:=Mn hl;simp only[ND,Ma]at h0 h1;obtain⟨_,_,_,m,_,g0,g1,g2⟩:=trod_array3 Tryz.underlying42 NE h0;obtain⟨n0,e0,_,w0⟩:=M0 Tryz.underlying41 g0;obtain⟨n1,e1,_,w1⟩:=M0 Tryz.underlying41 g1;obtain⟨n2,e2,_,w2⟩:=M0 Tryz.underlying41 g2;obtain⟨d,e3,_,w3⟩:=M0 Tryz.underlying5 h1;simp at e0 e1 e2 e3;subst e0 e1 e2 e3;exact⟨n0,n1,n2,d,rfl,(OX w0).1,(OX w0).2,(OX w1).1,(OX w1).2,(OX w2).1,(OX w2).2,(NL w3).1,(NL w3).2,rfl⟩
theorem NU{r:Reach}{b0:Nat}{v:Value}{d:DataW H}{p:List MemPlace}(hv:Value.okWide Tryz.prog W r b0 44 v)(h:DataW.Trod enc Tryz.prog W base spare held 44 v d p) :
  ∃n0 n1 n2 d:Int,v=smV n0 n1 n2 d/\Sm n0 n1 n2 d (d%6):=by
 obtain⟨cs,rfl,hsz⟩:=okWide_struct Tryz.underlying44 hv;obtain⟨fuel,hf⟩:=h;obtain⟨n0,n1,n2,d,e,hs⟩:=KT hf;refine⟨n0,n1,n2,d,?_,hs⟩;obtain⟨l⟩:=cs;simp[Value.cells]at e;rw[e];rfl
end
theorem NF:Tryz.prog.cellsOf 40=3:=by kernel_rfl
theorem Mb:Tryz.prog.cellsOf 3=1:=by kernel_rfl
section
variable {H:Type} {enc:TypeId × Value->H} {W:World} {base:Nat} {spare:Nat->Bool} {held:Bool}
theorem NO{r:Reach}{b0:Nat}{v:Value}{d:DataW H}{p:List MemPlace}(hv:Value.okWide Tryz.prog W r b0 40 v)(h:DataW.Trod enc Tryz.prog W base spare held 40 v d p) :
  ∃n0 n1 n2:Int,v= .agg #[.int .i64 n0,.int .i64 n1,.int .i64 n2]/\I64 n0/\I64 n1/\I64 n2:=by
 simp only[Value.okWide,Tryz.underlying40]at hv;obtain⟨cs,rfl,hsz,_⟩:=hv;rw[NF]at hsz;obtain⟨l⟩:=cs;obtain⟨a,b,c,rfl⟩:=Vr (by simpa using hsz);obtain⟨fuel,hf⟩:=h;obtain⟨y0,y1,y2,m,_,g0,g1,g2⟩:=trod_array3 Tryz.underlying40 Mb (by simpa[Value.cells]using hf);obtain⟨n0,e0,_,w0⟩:=M0 Tryz.underlying3 g0;obtain⟨n1,e1,_,w1⟩:=M0 Tryz.underlying3 g1;obtain⟨n2,e2,_,w2⟩:=M0 Tryz.underlying3 g2;simp at e0 e1 e2;subst e0 e1 e2;exact⟨n0,n1,n2,rfl,KN w0,KN w1,KN w2⟩
end
