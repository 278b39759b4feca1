/- GB53: OpenS OpenS3v -/
import Derived.Test.YtekhdklbfincpaaGreatDoorGB51
import Derived.Test.YtekhdklbfincpaaGreatDoorGB49
set_option maxRecDepth 100000
set_option maxHeartbeats 16000000
namespace Go.Proofs.YtekhdklbfincpaaGreatDoor
open Go.Value renaming int→Ji
open Go.DataW renaming trod→M0,trod_int→M1
open Go.ChangeShapes Go.WideShapes Go.ChangeAt Go.RowKit
theorem Mc:Tryz.prog.cellsOf 68=12:=by kernel_rfl
section
variable {H:Type} {enc:TypeId × Value->H} {W:World} {base:Nat} {spare:Nat->Bool} {held:Bool}
theorem Mt{α:Type}{l:List α}(h:l.length=12):∃a0 a1 a2 a3 a4 a5 a6 a7 a8 a9 a10 a11,l=[a0,a1,a2,a3,a4,a5,a6,a7,a8,a9,a10,a11]:=by
 match l,h with
 | [a0,a1,a2,a3,a4,a5,a6,a7,a8,a9,a10,a11],_=>exact⟨a0,a1,a2,a3,a4,a5,a6,a7,a8,a9,a10,a11,rfl⟩
theorem WB{P:Program}{t e:TypeId}{fuel:Nat}{cs:List Value}{x:DataW H × List MemPlace}(ht:P.underlying t=some (.array 3 e))(hce:P.cellsOf e=4)
  (h:M0 enc P W base spare held fuel t cs=some x) :
  ∃y0 y1 y2 n,M0 enc P W base spare held n e (cs.take 4)=some y0/\M0 enc P W base spare held n e ((cs.drop 4).take 4)=some y1/\M0 enc P W base spare held n e ((cs.drop 8).take 4)=some y2:=by
 cases fuel with
 | zero=>simp[M0]at h
 | succ n=>
  unfold M0 at h;rw[ht]at h;have r3:List.range 3=[0,1,2]:=rfl;simp[r3,hce]at h;obtain⟨_,h⟩:=h;cases h0:M0 enc P W base spare held n e (cs.take 4)with
  | none=>simp[h0]at h
  | some y0=>
   cases h1:M0 enc P W base spare held n e ((cs.drop 4).take 4)with
   | none=>simp[h0,h1]at h
   | some y1=>
    cases h2:M0 enc P W base spare held n e ((cs.drop 8).take 4)with
    | none=>simp[h0,h1,h2]at h
    | some y2=>exact⟨y0,y1,y2,n,h0,h1,h2⟩
theorem Z3{r:Reach}{b0:Nat}{v:Value}{d:DataW H}{p:List MemPlace}(hv:Value.okWide Tryz.prog W r b0 68 v)(h:DataW.Trod enc Tryz.prog W base spare held 68 v d p) :
  ∃n0a n1a n2a da n0b n1b n2b db n0c n1c n2c dc:Int,v= .agg #[Ji .i8 n0a,Ji .i8 n1a,Ji .i8 n2a,Ji .u8 da,Ji .i8 n0b,Ji .i8 n1b,Ji .i8 n2b,Ji .u8 db,Ji .i8 n0c,Ji .i8 n1c,Ji .i8 n2c,Ji .u8 dc]/\Sm n0a n1a n2a da (da%6)/\Sm n0b n1b n2b db (db%6)/\Sm n0c n1c n2c dc (dc%6):=by
 simp only[Value.okWide,Tryz.underlying68]at hv;obtain⟨cs,rfl,hsz,_⟩:=hv;rw[Mc]at hsz;obtain⟨l⟩:=cs;obtain⟨a0,a1,a2,a3,a4,a5,a6,a7,a8,a9,a10,a11,rfl⟩:=Mt (by simpa using hsz);obtain⟨fuel,hf⟩:=h;obtain⟨y0,y1,y2,m,g0,g1,g2⟩:=WB Tryz.underlying68 Wm (by simpa[Value.cells]using hf);obtain⟨n0a,n1a,n2a,da,e0,s0⟩:=Yb g0;obtain⟨n0b,n1b,n2b,db,e1,s1⟩:=Yb g1;obtain⟨n0c,n1c,n2c,dc,e2,s2⟩:=Yb g2;simp at e0 e1 e2;obtain⟨rfl,rfl,rfl,rfl⟩:=e0;obtain⟨rfl,rfl,rfl,rfl⟩:=e1;obtain⟨rfl,rfl,rfl,rfl⟩:=e2;exact⟨n0a,n1a,n2a,da,n0b,n1b,n2b,db,n0c,n1c,n2c,dc,rfl,s0,s1,s2⟩
end
theorem Mb:Tryz.prog.cellsOf 69=9:=by kernel_rfl
theorem Ni:Tryz.prog.cellsOf 40=3:=by kernel_rfl
theorem Mg:Tryz.prog.cellsOf 3=1:=by kernel_rfl
section
variable {H:Type} {enc:TypeId × Value->H} {W:World} {base:Nat} {spare:Nat->Bool} {held:Bool}
theorem MH{α:Type}{l:List α}(h:l.length=9):∃a0 a1 a2 a3 a4 a5 a6 a7 a8,l=[a0,a1,a2,a3,a4,a5,a6,a7,a8]:=by
 match l,h with
 | [a0,a1,a2,a3,a4,a5,a6,a7,a8],_=>exact⟨a0,a1,a2,a3,a4,a5,a6,a7,a8,rfl⟩
theorem WC{P:Program}{t e:TypeId}{fuel:Nat}{cs:List Value}{x:DataW H × List MemPlace}(ht:P.underlying t=some (.array 3 e))(hce:P.cellsOf e=3)
  (h:M0 enc P W base spare held fuel t cs=some x) :
  ∃y0 y1 y2 n,M0 enc P W base spare held n e (cs.take 3)=some y0/\M0 enc P W base spare held n e ((cs.drop 3).take 3)=some y1/\M0 enc P W base spare held n e ((cs.drop 6).take 3)=some y2:=by
 cases fuel with
 | zero=>simp[M0]at h
 | succ n=>
  unfold M0 at h;rw[ht]at h;have r3:List.range 3=[0,1,2]:=rfl;simp[r3,hce]at h;obtain⟨_,h⟩:=h;cases h0:M0 enc P W base spare held n e (cs.take 3)with
  | none=>simp[h0]at h
  | some y0=>
   cases h1:M0 enc P W base spare held n e ((cs.drop 3).take 3)with
   | none=>simp[h0,h1]at h
   | some y1=>
    cases h2:M0 enc P W base spare held n e ((cs.drop 6).take 3)with
    | none=>simp[h0,h1,h2]at h
    | some y2=>exact⟨y0,y1,y2,n,h0,h1,h2⟩
theorem XB{n:Nat}{c0 c1 c2:Value}{y:DataW H × List MemPlace}(g:M0 enc Tryz.prog W base spare held n 40 [c0,c1,c2]=some y):∃x0 x1 x2:Int,c0=Ji .i64 x0/\c1=Ji .i64 x1/\c2=Ji .i64 x2/\I64 x0/\I64 x1/\I64 x2:=by
 obtain⟨_,_,_,m,_,g0,g1,g2⟩:=trod_array3 Tryz.underlying40 Mg g;obtain⟨x0,e0,_,w0⟩:=M1 Tryz.underlying3 g0;obtain⟨x1,e1,_,w1⟩:=M1 Tryz.underlying3 g1;obtain⟨x2,e2,_,w2⟩:=M1 Tryz.underlying3 g2;simp at e0 e1 e2;exact⟨x0,x1,x2,e0,e1,e2,Ef w0,Ef w1,Ef w2⟩
theorem O5{r:Reach}{b0:Nat}{v:Value}{d:DataW H}{p:List MemPlace}(hv:Value.okWide Tryz.prog W r b0 69 v)(h:DataW.Trod enc Tryz.prog W base spare held 69 v d p) :
  ∃ka0 ka1 ka2 kb0 kb1 kb2 kc0 kc1 kc2:Int,v= .agg #[Ji .i64 ka0,Ji .i64 ka1,Ji .i64 ka2,Ji .i64 kb0,Ji .i64 kb1,Ji .i64 kb2,Ji .i64 kc0,Ji .i64 kc1,Ji .i64 kc2]/\I64 ka0/\I64 ka1/\I64 ka2/\I64 kb0/\I64 kb1/\I64 kb2/\I64 kc0/\I64 kc1/\I64 kc2:=by
 simp only[Value.okWide,Tryz.underlying69]at hv;obtain⟨cs,rfl,hsz,_⟩:=hv;rw[Mb]at hsz;obtain⟨l⟩:=cs;obtain⟨a0,a1,a2,a3,a4,a5,a6,a7,a8,rfl⟩:=MH (by simpa using hsz);obtain⟨fuel,hf⟩:=h;obtain⟨y0,y1,y2,m,g0,g1,g2⟩:=WC Tryz.underlying69 Ni (by simpa[Value.cells]using hf);obtain⟨ka0,ka1,ka2,rfl,rfl,rfl,u0,u1,u2⟩:=XB (by simpa using g0);obtain⟨kb0,kb1,kb2,rfl,rfl,rfl,u3,u4,u5⟩:=XB (by simpa using g1);obtain⟨kc0,kc1,kc2,rfl,rfl,rfl,u6,u7,u8⟩:=XB (by simpa using g2);exact⟨ka0,ka1,ka2,kb0,kb1,kb2,kc0,kc1,kc2,rfl,u0,u1,u2,u3,u4,u5,u6,u7,u8⟩
end
