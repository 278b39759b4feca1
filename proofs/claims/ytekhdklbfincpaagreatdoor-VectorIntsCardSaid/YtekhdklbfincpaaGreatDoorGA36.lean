/- GA36: Reg -/
import Derived.Test.YtekhdklbfincpaaGreatDoorGA29
import Derived.Test.YtekhdklbfincpaaGreatDoorGA26
set_option maxRecDepth 100000
set_option maxHeartbeats 16000000
namespace Go.Proofs.YtekhdklbfincpaaGreatDoor
open Go.RowKit
structure Pent (p:Prop):Prop where
 out:p
section
variable {P:Program} {md:Region.Mode} {ops:Array Oper} {Q:Exit→Act→World→Prop} {S:World→Prop} {k:Nat}
def StepP (P:Program) (md:Region.Mode) (ops:Array Oper) (Q:Exit→Act→World→Prop) (I:(Nat→Bool)→Act→World→Prop) (i:Nat) (o:Oper):Prop:=
 ∀ (d:Nat→Bool) (a:Act) (w:World),I d a w→d i=false→(∀ j,waits md ops i j=true→d j=true)→∀ K:Act→World→Prop,Shut (∀ b v,I (also d i) b v→K b v)→Pent (if Region.wanted o (yielded ops a.tmps)=true then Oper.wp P o a w K Q else K (a.put o.dst undef) w)
def StepsP (P:Program) (md:Region.Mode) (ops:Array Oper) (Q:Exit→Act→World→Prop) (I:(Nat→Bool)→Act→World→Prop):List Nat→Prop
 | []=>True
 | i :: r=>(∃ o,ops[i]?=some o∧StepP P md ops Q I i o)∧StepsP P md ops Q I r
theorem StepsP.steps {I:(Nat→Bool)→Act→World→Prop}:∀ {E:List Nat},StepsP P md ops Q I E→Steps P md ops Q I E
 | [],_=>trivial
 | _ :: _,⟨⟨o,ho,h⟩,hr⟩=>⟨⟨o,ho,fun d a w hI hi ha K hK=>(h d a w hI hi ha K hK).out⟩,StepsP.steps hr⟩
theorem Till.phaseP (E:List Nat) (l1:Array Bool) (m:Nat) (J:Act→(Nat→Bool)→Act→World→Prop) {l0:Array Bool} {n:Nat} {a0:Act} {w0:World} (hn:n=E.length+m) (hc:phaseOk md ops l0 l1 E=true) (hS:∀ d a w,J a0 d a w→S w)
  (h0:J a0 (fun j=>l0.getD j false) a0 w0) (steps:StepsP P md ops Q (J a0) E)
  (fin:∀ d a w,J a0 d a w→(∀ i ∈ E,d i=true)→Pent (Till P md ops Q S k m l1 a w)):Till P md ops Q S k n l0 a0 w0:=
 Till.phase E l1 m J hn hc hS h0 steps.steps fun d a w h hE=>(fin d a w h hE).out
end
def MadeAt (w:World) (t:Value) (q:Rat):Prop:=∃ (a:Int) (P:Option Addr) (b:Int) (Q:Option Addr),t= .tuple #[.agg #[.int .i64 a,.pointer P,.int .i64 b,.pointer Q],.int .i64 0]∧RatV w a P b Q q
theorem MadeAt.keep {w w':World} {t:Value} {q:Rat} (h:MadeAt w t q) (hb:Below w.heap.size w w'):MadeAt w' t q:=by
 obtain ⟨a,P,b,Q,e,hx⟩:=h
 exact ⟨a,P,b,Q,e,hx.keep hb⟩
theorem varR_put {w:World} {p:Nat} {a:Int} {P:Option Addr} {b:Int} {Q:Option Addr} {q:Rat} {x0 x1 x2 x3:Value} (h:Cells w p [x0,x1,x2,x3]) (hp:[x0,x1,x2,x3].all plainV=true) (hi:RatV w a P b Q q):VarR (put4 w p (.int .i64 a) (.pointer P) (.int .i64 b) (.pointer Q)) p a P b Q q:=
 ⟨h.put4 _ _ _ _,hi.wrote h hp (put4_heap w p _ _ _ _).1 (put4_heap w p _ _ _ _).2⟩
theorem MadeAt.wrote {w:World} {t:Value} {q:Rat} {p:Nat} {x0 x1 x2 x3:Value} (h:MadeAt w t q) (hc:Cells w p [x0,x1,x2,x3]) (hp:[x0,x1,x2,x3].all plainV=true) {y0 y1 y2 y3:Value}:MadeAt (put4 w p y0 y1 y2 y3) t q:=by
 obtain ⟨a,P,b,Q,e,hx⟩:=h
 exact ⟨a,P,b,Q,e,hx.wrote hc hp (put4_heap w p _ _ _ _).1 (put4_heap w p _ _ _ _).2⟩
theorem RatAt.wrote {w:World} {t:Value} {q:Rat} {p:Nat} {x0 x1 x2 x3:Value} (h:RatAt w t q) (hc:Cells w p [x0,x1,x2,x3]) (hp:[x0,x1,x2,x3].all plainV=true) {y0 y1 y2 y3:Value}:RatAt (put4 w p y0 y1 y2 y3) t q:=by
 obtain ⟨a,P,b,Q,e,hx⟩:=h
 exact ⟨a,P,b,Q,e,hx.wrote hc hp (put4_heap w p _ _ _ _).1 (put4_heap w p _ _ _ _).2⟩
theorem IntAt.wrote {w:World} {t:Value} {z:Int} {p:Nat} {x0 x1 x2 x3:Value} (h:IntAt w t z) (hc:Cells w p [x0,x1,x2,x3]) (hp:[x0,x1,x2,x3].all plainV=true) {y0 y1 y2 y3:Value}:IntAt (put4 w p y0 y1 y2 y3) t z:=by
 obtain ⟨a,P,e,hx⟩:=h
 exact ⟨a,P,e,hx.wrote hc hp (put4_heap w p _ _ _ _).1 (put4_heap w p _ _ _ _).2⟩
def VarRAt (b:Nat) (w:World) (t:Value) (q:Rat):Prop:=∃ (p:Nat) (x:Int) (X:Option Addr) (y:Int) (Y:Option Addr),t= .pointer (some ⟨p,0,none⟩)∧b≤p∧VarR w p x X y Y q
theorem VarRAt.keep {b:Nat} {w w':World} {t:Value} {q:Rat} (h:VarRAt b w t q) (hb:Below w.heap.size w w'):VarRAt b w' t q:=by
 obtain ⟨p,x,X,y,Y,e,hp,hv⟩:=h
 exact ⟨p,x,X,y,Y,e,hp,hv.keep hb⟩
end Go.Proofs.YtekhdklbfincpaaGreatDoor
