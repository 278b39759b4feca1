/- The arguments of the laws of layer 17, opened. -/
import Derived.Test.YthhobhjcnmmipaaGreatDoorKTwh
import Derived.Test.YthhobhjcnmmipaaGreatDoorC31
import Derived.Laws.IdiomArrays
set_option maxRecDepth 100000
set_option maxHeartbeats 16000000
namespace Go.Proofs.YthhobhjcnmmipaaGreatDoor
open Go.Value renaming int→Ji
open _root_.Option renaming some→Jo
open Go.DataW renaming trod→N0,trod_int→N1
open _root_.List renaming take_zero→N2,drop_zero→N3,range→Nd
open Go.ChangeShapes Go.WideShapes Go.ChangeAt Go.RowKit
theorem F0:laidOutB Tryz.prog=true:=by kernel_rfl
theorem LV:Tryz.prog.cellsOf 53=7:=by kernel_rfl
theorem LX:Tryz.prog.cellsOf 51=6:=by kernel_rfl
theorem DX:Tryz.prog.cellsOf 54=3:=by kernel_rfl
theorem LC:Tryz.prog.cellsOf 62=6:=by kernel_rfl
theorem Ls:Tryz.prog.cellsOf 50=1:=by kernel_rfl
theorem LW:Tryz.prog.cellsOf 5=1:=by kernel_rfl
abbrev DJ:List (String × DataW Unit):=[("math/bits.deBruijn32tab",Rows.laid_math_bits_deBruijn32tab),("math/bits.deBruijn64tab",Rows.laid_math_bits_deBruijn64tab),("internal/strconv.uint64pow10",Rows.laid_internal_strconv_uint64pow10)]
theorem Lo{W:World}(h:laidMet Tryz.prog DJ W):Good W:=by
 have h1:=laidMet.tail h;have h2:=laidMet.tail h1;rw[EE]at h1;rw[EF]at h2;have t1:=Lib.tabIs_of_head g64 KY Tryz.underlying219 Tryz.underlying5 Eg Eh h1;have t2:=Lib.tabIs_of_head gTab KZ Tryz.underlying242 Tryz.underlying154 Kq Ei h2;refine⟨t2,fun j hj=>?_⟩;have:=t1.cell g64 j (by simpa using hj);rw[show Tryz.lays7n29_ren.g 1=0 from rfl,this]
 congr 2
 simp[List.getD,hj]
section
variable {H:Type} {enc:TypeId × Value->H} {W:World} {base:Nat} {spare:Nat->Bool} {held:Bool}
theorem LL{α:Type}{l:List α}(h:l.length=7):∃a0 a1 a2 a3 a4 a5 a6,l=[a0,a1,a2,a3,a4,a5,a6]:=by
 match l,h with
 | [a0,a1,a2,a3,a4,a5,a6],_=>exact⟨a0,a1,a2,a3,a4,a5,a6,rfl⟩
theorem LM{α:Type}{l:List α}(h:l.length=6):∃a0 a1 a2 a3 a4 a5,l=[a0,a1,a2,a3,a4,a5]:=by
 match l,h with
 | [a0,a1,a2,a3,a4,a5],_=>exact⟨a0,a1,a2,a3,a4,a5,rfl⟩
theorem LN{α:Type}{l:List α}(h:l.length=3):∃a0 a1 a2,l=[a0,a1,a2]:=by
 match l,h with
 | [a0,a1,a2],_=>exact⟨a0,a1,a2,rfl⟩
theorem Df{n:Int}(h:(Lit.int .i8 n).wf=true):I8 n:=by
 simp[Lit.wf,IntKind.min,IntKind.max,IntKind.signed,IntKind.bits]at h;exact⟨by omega,by omega⟩
theorem LI{n:Int}(h:(Lit.int .u8 n).wf=true):0<=n/\n<=255:=by
 simp[Lit.wf,IntKind.min,IntKind.max,IntKind.signed,IntKind.bits]at h;omega
theorem DN{P:Program}{c:Nat}{t e:TypeId}{fuel:Nat}{cs:List Value}{x:DataW H × List MemPlace}(ht:P.underlying t=Jo (.array 6 e))(hce:P.cellsOf e=c)
  (h:N0 enc P W base spare held fuel t cs=Jo x) :
  ∃y0 y1 y2 y3 y4 y5 n,N0 enc P W base spare held n e (cs.take c)=Jo y0/\N0 enc P W base spare held n e ((cs.drop c).take c)=Jo y1/\N0 enc P W base spare held n e ((cs.drop (2*c)).take c)=Jo y2/\N0 enc P W base spare held n e ((cs.drop (3*c)).take c)=Jo y3/\N0 enc P W base spare held n e ((cs.drop (4*c)).take c)=Jo y4/\N0 enc P W base spare held n e ((cs.drop (5*c)).take c)=Jo y5:=by
 cases fuel with
 | zero=>simp[N0]at h
 | succ n=>
  unfold N0 at h;rw[ht]at h;have r3:Nd 6=[0,1,2,3,4,5]:=rfl;simp[r3,hce]at h;obtain⟨_,h⟩:=h;cases h0:N0 enc P W base spare held n e (cs.take c)with
  | none=>simp[h0]at h
  | some y0=>
   cases h1:N0 enc P W base spare held n e ((cs.drop c).take c)with
   | none=>simp[h0,h1]at h
   | some y1=>
    cases h2:N0 enc P W base spare held n e ((cs.drop (2*c)).take c)with
    | none=>simp[h0,h1,h2]at h
    | some y2=>
     cases h3:N0 enc P W base spare held n e ((cs.drop (3*c)).take c)with
     | none=>simp[h0,h1,h2,h3]at h
     | some y3=>
      cases h4:N0 enc P W base spare held n e ((cs.drop (4*c)).take c)with
      | none=>simp[h0,h1,h2,h3,h4]at h
      | some y4=>
       cases h5:N0 enc P W base spare held n e ((cs.drop (5*c)).take c)with
       | none=>simp[h0,h1,h2,h3,h4,h5]at h
       | some y5=>
        exact⟨y0,y1,y2,y3,y4,y5,n,h0,h1,h2,h3,h4,h5⟩
theorem DO{P:Program}{c:Nat}{t e:TypeId}{fuel:Nat}{cs:List Value}{x:DataW H × List MemPlace}(ht:P.underlying t=Jo (.array 3 e))(hce:P.cellsOf e=c)
  (h:N0 enc P W base spare held fuel t cs=Jo x) :
  ∃y0 y1 y2 n,N0 enc P W base spare held n e (cs.take c)=Jo y0/\N0 enc P W base spare held n e ((cs.drop c).take c)=Jo y1/\N0 enc P W base spare held n e ((cs.drop (2*c)).take c)=Jo y2:=by
 cases fuel with
 | zero=>simp[N0]at h
 | succ n=>
  unfold N0 at h;rw[ht]at h;have r3:Nd 3=[0,1,2]:=rfl;simp[r3,hce]at h;obtain⟨_,h⟩:=h;cases h0:N0 enc P W base spare held n e (cs.take c)with
  | none=>simp[h0]at h
  | some y0=>
   cases h1:N0 enc P W base spare held n e ((cs.drop c).take c)with
   | none=>simp[h0,h1]at h
   | some y1=>
    cases h2:N0 enc P W base spare held n e ((cs.drop (2*c)).take c)with
    | none=>simp[h0,h1,h2]at h
    | some y2=>
     exact⟨y0,y1,y2,n,h0,h1,h2⟩
theorem DP{P:Program}{c:Nat}{t e:TypeId}{fuel:Nat}{cs:List Value}{x:DataW H × List MemPlace}(ht:P.underlying t=Jo (.array 2 e))(hce:P.cellsOf e=c)
  (h:N0 enc P W base spare held fuel t cs=Jo x) :
  ∃y0 y1 n,N0 enc P W base spare held n e (cs.take c)=Jo y0/\N0 enc P W base spare held n e ((cs.drop c).take c)=Jo y1:=by
 cases fuel with
 | zero=>simp[N0]at h
 | succ n=>
  unfold N0 at h;rw[ht]at h;have r3:Nd 2=[0,1]:=rfl;simp[r3,hce]at h;obtain⟨_,h⟩:=h;cases h0:N0 enc P W base spare held n e (cs.take c)with
  | none=>simp[h0]at h
  | some y0=>
   cases h1:N0 enc P W base spare held n e ((cs.drop c).take c)with
   | none=>simp[h0,h1]at h
   | some y1=>
    exact⟨y0,y1,n,h0,h1⟩
theorem DG{fuel:Nat}{cs:List Value}{x:DataW H × List MemPlace}(hl:cs.length=3)(h:N0 enc Tryz.prog W base spare held fuel 54 cs=Jo x) :
  ∃n0 n1 n2:Int,cs=[Ji .i8 n0,Ji .i8 n1,Ji .i8 n2]/\I8 n0/\I8 n1/\I8 n2:=by
 obtain⟨a,b,c,rfl⟩:=LN hl;obtain⟨_,_,_,m,g0,g1,g2⟩:=DO Tryz.underlying54 Ls h;simp only[List.take_succ_cons,N2,List.drop_succ_cons,N3]at g0 g1 g2;obtain⟨n0,e0,_,w0⟩:=N1 Tryz.underlying50 g0;obtain⟨n1,e1,_,w1⟩:=N1 Tryz.underlying50 g1;obtain⟨n2,e2,_,w2⟩:=N1 Tryz.underlying50 g2;simp at e0 e1 e2;subst e0 e1 e2;exact⟨n0,n1,n2,rfl,Df w0,Df w1,Df w2⟩
theorem FT{r:Reach}{b0:Nat}{v:Value}{d:DataW H}{p:List MemPlace}(hv:Value.okWide Tryz.prog W r b0 53 v)(h:DataW.Trod enc Tryz.prog W base spare held 53 v d p) :
  ∃n0 n1 n2 n3 n4 n5 e:Int,v= .agg #[Ji .i8 n0,Ji .i8 n1,Ji .i8 n2,Ji .i8 n3,Ji .i8 n4,Ji .i8 n5,Ji .u8 e]/\S6 n0 n1 n2 n3 n4 n5 e (e%3):=by
 obtain⟨cs,rfl,hsz⟩:=okWide_struct Tryz.underlying53 hv;obtain⟨fuel,hf⟩:=h;obtain⟨y0,y1,n,_,hl,h0,h1⟩:=trod_struct2 Tryz.underlying53 hf;rw[LV]at hl;obtain⟨l⟩:=cs;obtain⟨c0,c1,c2,c3,c4,c5,c6,rfl⟩:=LL (by simpa[Value.cells]using hl);simp only[LX,LW,Value.cells,List.take_succ_cons,N2,List.drop_succ_cons,N3]at h0 h1;obtain⟨_,_,_,_,_,_,m,g0,g1,g2,g3,g4,g5⟩:=DN Tryz.underlying51 Ls h0;simp only[List.take_succ_cons,N2,List.drop_succ_cons,N3]at g0 g1 g2 g3 g4 g5;obtain⟨n0,e0,_,w0⟩:=N1 Tryz.underlying50 g0;obtain⟨n1,e1,_,w1⟩:=N1 Tryz.underlying50 g1;obtain⟨n2,e2,_,w2⟩:=N1 Tryz.underlying50 g2;obtain⟨n3,e3,_,w3⟩:=N1 Tryz.underlying50 g3;obtain⟨n4,e4,_,w4⟩:=N1 Tryz.underlying50 g4;obtain⟨n5,e5,_,w5⟩:=N1 Tryz.underlying50 g5;obtain⟨d6,e6,_,w6⟩:=N1 Tryz.underlying5 h1;simp at e0 e1 e2 e3 e4 e5 e6;subst e0 e1 e2 e3 e4 e5 e6;exact⟨n0,n1,n2,n3,n4,n5,d6,rfl,Df w0,Df w1,Df w2,Df w3,Df w4,Df w5,(LI w6).1,(LI w6).2,rfl⟩
theorem LA{r:Reach}{b0:Nat}{v:Value}{d:DataW H}{p:List MemPlace}(hv:Value.okWide Tryz.prog W r b0 54 v)(h:DataW.Trod enc Tryz.prog W base spare held 54 v d p) :
  ∃n0 n1 n2:Int,v= .agg #[Ji .i8 n0,Ji .i8 n1,Ji .i8 n2]/\I8 n0/\I8 n1/\I8 n2:=by
 simp only[Value.okWide,Tryz.underlying54]at hv;obtain⟨cs,rfl,hsz,_⟩:=hv;rw[DX]at hsz;obtain⟨l⟩:=cs;obtain⟨fuel,hf⟩:=h;obtain⟨n0,n1,n2,e,hs⟩:=DG (by simpa[Value.cells]using hsz) hf;simp[Value.cells]at e;subst e;exact⟨n0,n1,n2,rfl,hs⟩
theorem Ll{r:Reach}{b0:Nat}{v:Value}{d:DataW H}{p:List MemPlace}(hv:Value.okWide Tryz.prog W r b0 62 v)(h:DataW.Trod enc Tryz.prog W base spare held 62 v d p) :
  ∃n0 n1 n2 m0 m1 m2:Int,v= .agg #[Ji .i8 n0,Ji .i8 n1,Ji .i8 n2,Ji .i8 m0,Ji .i8 m1,Ji .i8 m2]/\I8 n0/\I8 n1/\I8 n2/\I8 m0/\I8 m1/\I8 m2:=by
 simp only[Value.okWide,Tryz.underlying62]at hv;obtain⟨cs,rfl,hsz,_⟩:=hv;rw[LC]at hsz;obtain⟨l⟩:=cs;obtain⟨a0,a1,a2,a3,a4,a5,rfl⟩:=LM (by simpa using hsz);obtain⟨fuel,hf⟩:=h;obtain⟨_,_,m,g0,g1⟩:=DP Tryz.underlying62 DX (by simpa[Value.cells]using hf);simp only[List.take_succ_cons,N2,List.drop_succ_cons,N3]at g0 g1;obtain⟨n0,n1,n2,e0,s0,s1,s2⟩:=DG rfl g0;obtain⟨m0,m1,m2,e1,t0,t1,t2⟩:=DG rfl g1;simp at e0 e1;obtain⟨rfl,rfl,rfl⟩:=e0;obtain⟨rfl,rfl,rfl⟩:=e1;exact⟨n0,n1,n2,m0,m1,m2,rfl,s0,s1,s2,t0,t1,t2⟩
end
