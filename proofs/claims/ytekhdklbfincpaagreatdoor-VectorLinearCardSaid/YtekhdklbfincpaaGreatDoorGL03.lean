/- GL03: OpenS -/
import Derived.Test.YtekhdklbfincpaaGreatDoorGL02
set_option maxRecDepth 100000
set_option maxHeartbeats 16000000
namespace Go.Proofs.YtekhdklbfincpaaGreatDoor
open Go.DataW renaming trod→U1
open Go.ChangeShapes Go.WideShapes Go.ChangeAt Go.RowKit
theorem cells68:Tryz.prog.cellsOf 68=12:=by kernel_rfl
section
variable {H:Type} {enc:TypeId × Value->H} {W:World} {base:Nat} {spare:Nat->Bool} {held:Bool}
theorem list12{α:Type}{l:List α}(h:l.length=12):∃a0 a1 a2 a3 a4 a5 a6 a7 a8 a9 a10 a11,l=[a0,a1,a2,a3,a4,a5,a6,a7,a8,a9,a10,a11]:=by
 match l,h with
 | [a0,a1,a2,a3,a4,a5,a6,a7,a8,a9,a10,a11],_=>exact⟨a0,a1,a2,a3,a4,a5,a6,a7,a8,a9,a10,a11,rfl⟩
theorem trod_three4{P:Program}{t e:TypeId}{fuel:Nat}{cs:List Value}{x:DataW H × List MemPlace}(ht:P.underlying t=some (.array 3 e))(hce:P.cellsOf e=4)
  (h:U1 enc P W base spare held fuel t cs=some x) :
  ∃y0 y1 y2 n,U1 enc P W base spare held n e (cs.take 4)=some y0/\U1 enc P W base spare held n e ((cs.drop 4).take 4)=some y1/\U1 enc P W base spare held n e ((cs.drop 8).take 4)=some y2:=by
 cases fuel with
 | zero=>simp[U1]at h
 | succ n=>
  unfold U1 at h;rw[ht]at h;have r3:List.range 3=[0,1,2]:=rfl;simp[r3,hce]at h;obtain⟨_,h⟩:=h;cases h0:U1 enc P W base spare held n e (cs.take 4)with
  | none=>simp[h0]at h
  | some y0=>
   cases h1:U1 enc P W base spare held n e ((cs.drop 4).take 4)with
   | none=>simp[h0,h1]at h
   | some y1=>
    cases h2:U1 enc P W base spare held n e ((cs.drop 8).take 4)with
    | none=>simp[h0,h1,h2]at h
    | some y2=>exact⟨y0,y1,y2,n,h0,h1,h2⟩
theorem open_smalls3{r:Reach}{b0:Nat}{v:Value}{d:DataW H}{p:List MemPlace}(hv:Value.okWide Tryz.prog W r b0 68 v)(h:DataW.Trod enc Tryz.prog W base spare held 68 v d p) :
  ∃n0a n1a n2a da n0b n1b n2b db n0c n1c n2c dc:Int,v= .agg #[.int .i8 n0a,.int .i8 n1a,.int .i8 n2a,.int .u8 da,.int .i8 n0b,.int .i8 n1b,.int .i8 n2b,.int .u8 db,.int .i8 n0c,.int .i8 n1c,.int .i8 n2c,.int .u8 dc]/\Sm n0a n1a n2a da (da%6)/\Sm n0b n1b n2b db (db%6)/\Sm n0c n1c n2c dc (dc%6):=by
 simp only[Value.okWide,Tryz.underlying68]at hv;obtain⟨cs,rfl,hsz,_⟩:=hv;rw[cells68]at hsz;obtain⟨l⟩:=cs;obtain⟨a0,a1,a2,a3,a4,a5,a6,a7,a8,a9,a10,a11,rfl⟩:=list12 (by simpa using hsz);obtain⟨fuel,hf⟩:=h;obtain⟨y0,y1,y2,m,g0,g1,g2⟩:=trod_three4 Tryz.underlying68 cells44 (by simpa[Value.cells]using hf);obtain⟨n0a,n1a,n2a,da,e0,s0⟩:=trod_small g0;obtain⟨n0b,n1b,n2b,db,e1,s1⟩:=trod_small g1;obtain⟨n0c,n1c,n2c,dc,e2,s2⟩:=trod_small g2;simp at e0 e1 e2;obtain⟨rfl,rfl,rfl,rfl⟩:=e0;obtain⟨rfl,rfl,rfl,rfl⟩:=e1;obtain⟨rfl,rfl,rfl,rfl⟩:=e2;exact⟨n0a,n1a,n2a,da,n0b,n1b,n2b,db,n0c,n1c,n2c,dc,rfl,s0,s1,s2⟩
theorem open_i8{r:Reach}{b0:Nat}{v:Value}{d:DataW H}{p:List MemPlace}(hv:Value.okWide Tryz.prog W r b0 41 v)(h:DataW.Trod enc Tryz.prog W base spare held 41 v d p):∃k:Int,v= .int .i8 k/\-128<=k/\k<=127:=by
 obtain⟨x,rfl,_,_,wx⟩:=open_int Tryz.underlying41 hv h;exact⟨x,rfl,wf_i8 wx⟩
end
