/- GA50: Open -/
import Derived.Test.YtekhdklbfincpaaGreatDoorGA01
import Derived.Test.YtekhdklbfincpaaGreatDoorGA47
import Derived.Laws.IdiomArrays
set_option maxRecDepth 100000
set_option maxHeartbeats 16000000
namespace Go.Proofs.YtekhdklbfincpaaGreatDoor
open Go.ChangeShapes Go.WideShapes Go.ChangeAt Go.RowKit
theorem laidOut:laidOutB Tryz.prog=true:=by kernel_rfl
theorem cells44:Tryz.prog.cellsOf 44=4:=by kernel_rfl
theorem cells42:Tryz.prog.cellsOf 42=3:=by kernel_rfl
theorem cells41:Tryz.prog.cellsOf 41=1:=by kernel_rfl
theorem cells5:Tryz.prog.cellsOf 5=1:=by kernel_rfl
section
variable {H:Type} {enc:TypeId × Value→H} {W:World} {base:Nat} {spare:Nat→Bool} {held:Bool}
theorem list4 {α:Type} {l:List α} (h:l.length=4):∃ a b c d,l=[a,b,c,d]:=by
 match l,h with
 | [a,b,c,d],_=>exact ⟨a,b,c,d,rfl⟩
theorem wf_i8 {n:Int} (h:(Lit.int .i8 n).wf=true):-128≤n∧n≤127:=by
 simp [Lit.wf,IntKind.min,IntKind.max,IntKind.signed,IntKind.bits] at h
 omega
theorem wf_u8 {n:Int} (h:(Lit.int .u8 n).wf=true):0≤n∧n≤255:=by
 simp [Lit.wf,IntKind.min,IntKind.max,IntKind.signed,IntKind.bits] at h
 omega
theorem trod_small {fuel:Nat} {cs:List Value} {x:DataW H × List MemPlace} (h:DataW.trod enc Tryz.prog W base spare held fuel 44 cs=some x) :
  ∃ n0 n1 n2 d:Int,cs=[.int .i8 n0,.int .i8 n1,.int .i8 n2,.int .u8 d]∧Sm n0 n1 n2 d (d % 6):=by
 obtain ⟨y0,y1,n,_,hl,h0,h1⟩:=trod_struct2 Tryz.underlying44 h
 rw [cells44] at hl
 obtain ⟨a,b,c,e,rfl⟩:=list4 hl
 simp only [cells42,cells5] at h0 h1
 obtain ⟨_,_,_,m,_,g0,g1,g2⟩:=trod_array3 Tryz.underlying42 cells41 h0
 obtain ⟨n0,e0,_,w0⟩:=DataW.trod_int Tryz.underlying41 g0
 obtain ⟨n1,e1,_,w1⟩:=DataW.trod_int Tryz.underlying41 g1
 obtain ⟨n2,e2,_,w2⟩:=DataW.trod_int Tryz.underlying41 g2
 obtain ⟨d,e3,_,w3⟩:=DataW.trod_int Tryz.underlying5 h1
 simp at e0 e1 e2 e3
 subst e0 e1 e2 e3
 exact ⟨n0,n1,n2,d,rfl,(wf_i8 w0).1,(wf_i8 w0).2,(wf_i8 w1).1,(wf_i8 w1).2,(wf_i8 w2).1,(wf_i8 w2).2,(wf_u8 w3).1,(wf_u8 w3).2,rfl⟩
theorem open_small {r:Reach} {b0:Nat} {v:Value} {d:DataW H} {p:List MemPlace} (hv:Value.okWide Tryz.prog W r b0 44 v) (h:DataW.Trod enc Tryz.prog W base spare held 44 v d p) :
  ∃ n0 n1 n2 d:Int,v=smV n0 n1 n2 d∧Sm n0 n1 n2 d (d % 6):=by
 obtain ⟨cs,rfl,hsz⟩:=okWide_struct Tryz.underlying44 hv
 obtain ⟨fuel,hf⟩:=h
 obtain ⟨n0,n1,n2,d,e,hs⟩:=trod_small hf
 refine ⟨n0,n1,n2,d,?_,hs⟩
 obtain ⟨l⟩:=cs
 simp [Value.cells] at e
 rw [e]
 rfl
end
end Go.Proofs.YtekhdklbfincpaaGreatDoor
