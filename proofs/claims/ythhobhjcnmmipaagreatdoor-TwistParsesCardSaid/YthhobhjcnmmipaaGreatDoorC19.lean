/- C19: Lists Lists2 Vec Vec2 -/
import Derived.Test.YthhobhjcnmmipaaGreatDoorC18
set_option maxRecDepth 100000
set_option maxHeartbeats 16000000
namespace Go.Proofs.YthhobhjcnmmipaaGreatDoor
open Go.Value renaming pointer→Jp,int→Ji,string→Js
open Go.IntKind renaming i64→Jl
open Go.Obj renaming cells→Jc
open _root_.Option renaming none→Jn,some→Jo
open Go renaming World→JW
open Go.World renaming size_alloc→E4,setCell→Fb
open _root_.List renaming getElem?_eq_getElem→E5,getElem?_set_ne→EZ,length_set→Fa
open Go.RowKit.Below renaming heap_setCell→E6,refl→E7
open _root_.Nat renaming le_refl→E8,mul_comm→E9,not_lt_zero→EY,le_succ→F0,lt_or_ge→Fc,le_of_lt→Fe
open Go.RowKit
def SL(w:JW)(A:Option Addr)(n:Nat)(l:List ByteArray):Prop:=
 l.length=n/\∀k s,l[k]?=Jo s->∃b o,A=Jo ⟨b,o,Jn⟩/\b<w.heap.size/\w.cell? ⟨b,o+k,Jn⟩=Jo (Js s)
theorem SL.keep{w w':JW}{A:Option Addr}{n:Nat}{l:List ByteArray}(h:SL w A n l)(hb:Below w.heap.size w w'):SL w' A n l:=
 ⟨h.1,fun k s hk=>let ⟨b,o,e,hlt,hc⟩:=h.2 k s hk;⟨b,o,e,Nat.lt_of_lt_of_le hlt hb.size,(hb.cell (p:=⟨b,o+k,Jn⟩) hlt).trans hc⟩⟩
theorem SL.at_{w:JW}{A:Option Addr}{n:Nat}{l:List ByteArray}(h:SL w A n l){k:Nat}(hk:k<n):∃s b o,l[k]?=Jo s/\A=Jo ⟨b,o,Jn⟩/\b<w.heap.size/\w.cell? ⟨b,o+k,Jn⟩=Jo (Js s):=by
 have hl:k<l.length:=by rw[h.1];exact hk
 obtain⟨b,o,e,hb,hc⟩:=h.2 k l[k] (E5 hl);exact⟨_,b,o,E5 hl,e,hb,hc⟩
def YH(l:List ByteArray):List Value:=l.map Value.string
theorem SL.of_own{w:JW}{base n:Nat}{v:Value}{l:List ByteArray}(h:w.ownsRow base 22 1 v n (YH l))(hl:l.length=n):∃A c,v= .slice A n c/\SL w A n l/\(A=Jn->n=0/\c=0)/\c<=maxLen:=by
 rcases h.2 with⟨rfl,rfl⟩|⟨g,cap,cur,rfl,hg,hh,hnc,hcm,hcs,hx⟩
 ·refine⟨Jn,0,rfl,⟨hl,fun k s hk=>?_⟩,fun _=>⟨rfl,rfl⟩,Nat.zero_le _⟩;rw[List.eq_nil_of_length_eq_zero hl]at hk;cases hk
 ·refine⟨_,cap,rfl,⟨hl,fun k s hk=>⟨g,0,rfl,?_,?_⟩⟩,(fun h=>by cases h),hcm⟩
  ·rcases Fc g w.heap.size with h1|h1
   ·exact h1
   ·rw[Array.getElem?_eq_none h1]at hh;cases hh
  ·rw[cell_of_row _ _ _ _ _ _ hh,Nat.zero_add];have e:cur.toList[k]?=Jo (Js s):=by
    have hk2:k<n:=by
     rcases Fc k l.length with h1|h1
     ·omega
     ·rw[List.getElem?_eq_none h1]at hk;cases hk
    have e1:(cur.toList.take (n*1))[k]?=cur.toList[k]?:=List.getElem?_take_of_lt (by omega);rw[←e1,hx];unfold YH;rw[List.getElem?_map,hk];rfl
   simpa using e
abbrev R4:=Int × Option Addr × Int × Option Addr
def Qm(r:R4):List Value:=[Ji Jl r.1,Jp r.2.1,Ji Jl r.2.2.1,Jp r.2.2.2]
def flat:List R4->List Value
 | []=>[]
 | r :: rs=>Qm r ++ flat rs
theorem Ub:∀(rs:List R4) (k j:Nat) (r:R4),rs[k]?=Jo r->j<4->(flat rs)[4*k+j]?=(Qm r)[j]?
 | [],k,j,r,h,_=>by simp at h
 | x :: rs,0,j,r,h,hj=>by
  obtain rfl:x=r:=by simpa using h
  show(Qm x ++ flat rs)[4*0+j]?=_;rw[List.getElem?_append_left (by show 4*0+j<4;omega)]
  congr 1
  omega
 | x :: rs,k+1,j,r,h,hj=>by
  show(Qm x ++ flat rs)[4*(k+1)+j]?=_;rw[List.getElem?_append_right (by show 4<=_;omega),←Ub rs k j r (by simpa using h) hj]
  congr 1
  show 4*(k+1)+j-4=4*k+j;omega
theorem Ol:∀rs:List R4,(flat rs).length=4*rs.length
 | []=>rfl
 | x :: rs=>by
  show(Qm x ++ flat rs).length=_;rw[List.length_append,Ol rs,List.length_cons];show 4+_=_;omega
theorem Uz:∀rs:List R4,(flat rs).all YI=true
 | []=>rfl
 | x :: rs=>by
  show(Qm x ++ flat rs).all YI=true;rw[List.all_append,Uz rs];rfl
theorem Ok:∀(rs:List R4) (k:Nat) (r:R4),k<rs.length->((((flat rs).set (4*k) (Ji Jl r.1)).set (4*k+1) (Jp r.2.1)).set (4*k+2) (Ji Jl r.2.2.1)).set (4*k+3) (Jp r.2.2.2)=flat (rs.set k r)
 | [],_,_,h=>absurd h (EY _)
 | x :: rs,0,r,_=>rfl
 | x :: rs,k+1,r,h=>by
  have ih:=Ok rs k r (Nat.lt_of_succ_lt_succ h);have e:∀(j:Nat) (L:List Value) (v:Value),(Qm x ++ L).set (4*(k+1)+j) v=Qm x ++ L.set (4*k+j) v:=fun j L v=>by
   rw[List.set_append_right _ _ (by show 4<=_;omega)]
   congr 2
   show 4*(k+1)+j-4=4*k+j;omega
  show((((Qm x ++ flat rs).set (4*(k+1)+0) _).set _ _).set _ _).set _ _=Qm x ++ flat (rs.set k r);rw[e,e,e,e];exact congrArg _ ih
def put4at(w:JW)(g k:Nat)(x y z u:Value):JW:=(((w.setCell ⟨g,k*4,Jn⟩ x).setCell ⟨g,k*4+1,Jn⟩ y).setCell ⟨g,k*4+2,Jn⟩ z).setCell ⟨g,k*4+3,Jn⟩ u
theorem Jh.put4at{w:JW}{g k:Nat}{rs:List R4}(h:Jh w g (flat rs))(hk:k<rs.length)(r:R4):Jh (put4at w g k (Ji Jl r.1) (Jp r.2.1) (Ji Jl r.2.2.1) (Jp r.2.2.2)) g (flat (rs.set k r)):=by
 have hl:=Ol rs;rw[←Ok rs k r hk,E9 4 k];exact(((h.set (k*4) _ (by omega)).set (k*4+1) _ (by simp;omega)).set (k*4+2) _ (by simp;omega)).set (k*4+3) _ (by simp;omega)
theorem G2(w:JW)(g k:Nat)(x y z u:Value):(put4at w g k x y z u).heap.size=w.heap.size/\∀i,i≠g->(put4at w g k x y z u).heap[i]?=w.heap[i]?:=
 ⟨by simp[put4at,Fb],fun i hi=>(E6 _ ⟨g,k*4+3,Jn⟩ u i hi).trans ((E6 _ ⟨g,k*4+2,Jn⟩ z i hi).trans ((E6 _ ⟨g,k*4+1,Jn⟩ y i hi).trans (E6 w ⟨g,k*4,Jn⟩ x i hi)))⟩
theorem Gz{w0 w:JW}{g:Nat}(h:Below w0.heap.size w0 w)(hg:w0.heap.size<=g)(k:Nat)(x y z u:Value):Below w0.heap.size w0 (put4at w g k x y z u):=
 (((h.setCell (p:=⟨g,k*4,Jn⟩) hg x).setCell (p:=⟨g,k*4+1,Jn⟩) hg y).setCell (p:=⟨g,k*4+2,Jn⟩) hg z).setCell (p:=⟨g,k*4+3,Jn⟩) hg u
def RatT(w:JW)(r:R4)(s:ByteArray):Prop:=∃q:Rat,RatV w r.1 r.2.1 r.2.2.1 r.2.2.2 q/\Qs q=s/\q.num.natAbs<ten 3000/\q.den<ten 3000
def RL(w:JW)(A:Option Addr)(n:Nat)(l:List ByteArray):Prop:=
 l.length=n/\∃(g:Nat) (rs:List R4),A=Jo ⟨g,0,Jn⟩/\rs.length=n/\Jh w g (flat rs)/\∀(k:Nat) (r:R4) (s:ByteArray),rs[k]?=Jo r->l[k]?=Jo s->RatT w r s
theorem RatT.keep{w w':JW}{r:R4}{s:ByteArray}(h:RatT w r s)(hb:Below w.heap.size w w'):RatT w' r s:=let ⟨q,h1,h2⟩:=h;⟨q,h1.keep hb,h2⟩
theorem RatT.wrote{w w':JW}{r:R4}{s:ByteArray}{g:Nat}{rs:List R4}(h:RatT w r s)(hc:Jh w g (flat rs))(hs:w'.heap.size=w.heap.size)(hk:∀k,k≠g->w'.heap[k]?=w.heap[k]?):RatT w' r s:=
 let ⟨q,h1,h2⟩:=h;⟨q,h1.wrote hc (Uz rs) hs hk,h2⟩
theorem RL.keep{w w':JW}{A:Option Addr}{n:Nat}{l:List ByteArray}(h:RL w A n l)(hb:Below w.heap.size w w'):RL w' A n l:=
 let ⟨h1,g,rs,h2,h3,h4,h5⟩:=h;⟨h1,g,rs,h2,h3,h4.keep hb,fun k r s hr hs=>(h5 k r s hr hs).keep hb⟩
theorem RL.at_{w:JW}{A:Option Addr}{n:Nat}{l:List ByteArray}(h:RL w A n l){k:Nat}(hk:k<n):∃(g:Nat) (a:Int) (P:Option Addr) (b:Int) (Q:Option Addr) (s:ByteArray),A=Jo ⟨g,0,Jn⟩/\g<w.heap.size/\l[k]?=Jo s/\RatT w (a,P,b,Q) s /\
  w.cell? ⟨g,k*4,Jn⟩=Jo (Ji Jl a)/\w.cell? ⟨g,k*4+1,Jn⟩=Jo (Jp P)/\w.cell? ⟨g,k*4+2,Jn⟩=Jo (Ji Jl b)/\w.cell? ⟨g,k*4+3,Jn⟩=Jo (Jp Q):=by
 obtain⟨h1,g,rs,rfl,h3,h4,h5⟩:=h;obtain⟨s,hs⟩:∃s,l[k]?=Jo s:=⟨_,E5 (by omega)⟩;obtain⟨⟨a,P,b,Q⟩,hr⟩:∃r,rs[k]?=Jo r:=⟨_,E5 (by omega)⟩;refine⟨g,a,P,b,Q,s,rfl,h4.lt,hs,h5 k _ s hr hs,?_,?_,?_,?_⟩
 ·exact(h4.at_ _).trans (by rw[E9 k 4];exact Ub rs k 0 _ hr (by decide))
 ·exact(h4.at_ _).trans (by rw[E9 k 4];exact Ub rs k 1 _ hr (by decide))
 ·exact(h4.at_ _).trans (by rw[E9 k 4];exact Ub rs k 2 _ hr (by decide))
 ·exact(h4.at_ _).trans (by rw[E9 k 4];exact Ub rs k 3 _ hr (by decide))
theorem Wu(l:List ByteArray)(k:Nat)(s:ByteArray):(YH l).set k (Js s)=YH (l.set k s):=by
 unfold YH;rw[List.map_set]
theorem KM{l ss:List ByteArray}{k:Nat}{s0:ByteArray}(hs:l[k]?=Jo s0)(hk:k<ss.length)(h:∀(i:Nat) (s:ByteArray),i<k->l[i]?=Jo s->ss[i]?=Jo s) :
  ∀(i:Nat) (s:ByteArray),i<k+1->l[i]?=Jo s->(ss.set k s0)[i]?=Jo s:=by
 intro i s hi h1;by_cases e:i=k
 ·subst e;rw[List.getElem?_set_self hk,←hs,h1]
 ·rw[EZ (fun h=>e h.symm)];exact h i s (by omega) h1
def Jm:R4:=(0,Jn,0,Jn)
def Jw(r0 r1 r2:R4):Value:= .agg #[Ji Jl r0.1,Jp r0.2.1,Ji Jl r0.2.2.1,Jp r0.2.2.2,Ji Jl r1.1,Jp r1.2.1,Ji Jl r1.2.2.1,Jp r1.2.2.2,Ji Jl r2.1,Jp r2.2.1,Ji Jl r2.2.2.1,Jp r2.2.2.2]
def VAt(w:JW)(r:R4)(q:Rat):Prop:=RatV w r.1 r.2.1 r.2.2.1 r.2.2.2 q
theorem VAt.keep{w w':JW}{r:R4}{q:Rat}(h:VAt w r q)(hb:Below w.heap.size w w'):VAt w' r q:=RatV.keep h hb
theorem VAt.wrote{w w':JW}{r:R4}{q:Rat}{p:Nat}{rs:List R4}(h:VAt w r q)(hc:Jh w p (flat rs))(hs:w'.heap.size=w.heap.size)(hk:∀k,k≠p->w'.heap[k]?=w.heap[k]?):VAt w' r q:=RatV.wrote h hc (Uz rs) hs hk
structure VecV (w:JW) (r0 r1 r2:R4) (q0 q1 q2:Rat):Prop where
 x:VAt w r0 q0
 y:VAt w r1 q1
 z:VAt w r2 q2
theorem VecV.keep{w w':JW}{r0 r1 r2:R4}{q0 q1 q2:Rat}(h:VecV w r0 r1 r2 q0 q1 q2)(hb:Below w.heap.size w w'):VecV w' r0 r1 r2 q0 q1 q2:=⟨h.x.keep hb,h.y.keep hb,h.z.keep hb⟩
theorem VecV.wrote{w w':JW}{r0 r1 r2:R4}{q0 q1 q2:Rat}{p:Nat}{rs:List R4}(h:VecV w r0 r1 r2 q0 q1 q2)(hc:Jh w p (flat rs))(hs:w'.heap.size=w.heap.size)(hk:∀k,k≠p->w'.heap[k]?=w.heap[k]?):VecV w' r0 r1 r2 q0 q1 q2:=⟨h.x.wrote hc hs hk,h.y.wrote hc hs hk,h.z.wrote hc hs hk⟩
def YX(q0 q1 q2:Rat)(w:JW)(e:Ending)(w':JW):Prop:=
 ∃r0 r1 r2,e= .returned (Jw r0 r1 r2)/\VecV w' r0 r1 r2 q0 q1 q2/\Below w.heap.size w w'
def put12(w:JW)(p:Nat)(r0 r1 r2:R4):JW:=((((((((((((w.setCell ⟨p,0,Jn⟩ (Ji Jl r0.1)).setCell ⟨p,1,Jn⟩ (Jp r0.2.1)).setCell ⟨p,2,Jn⟩ (Ji Jl r0.2.2.1)).setCell ⟨p,3,Jn⟩ (Jp r0.2.2.2)).setCell ⟨p,4,Jn⟩ (Ji Jl r1.1)).setCell ⟨p,5,Jn⟩ (Jp r1.2.1)).setCell ⟨p,6,Jn⟩ (Ji Jl r1.2.2.1)).setCell ⟨p,7,Jn⟩ (Jp r1.2.2.2)).setCell ⟨p,8,Jn⟩ (Ji Jl r2.1)).setCell ⟨p,9,Jn⟩ (Jp r2.2.1)).setCell ⟨p,10,Jn⟩ (Ji Jl r2.2.2.1)).setCell ⟨p,11,Jn⟩ (Jp r2.2.2.2))
theorem JA(w:JW)(p:Nat)(r0 r1 r2:R4):(put12 w p r0 r1 r2).heap.size=w.heap.size/\∀k,k≠p->(put12 w p r0 r1 r2).heap[k]?=w.heap[k]?:=
 ⟨by simp [put12,Fb],fun k hk=>by
  unfold put12
  repeat rw [E6 _ ⟨p,_,Jn⟩ _ k hk]⟩
theorem JV{w0 w:JW}{p:Nat}(h:Below w0.heap.size w0 w)(hp:w0.heap.size<=p)(r0 r1 r2:R4):Below w0.heap.size w0 (put12 w p r0 r1 r2):=by
 unfold put12;exact((((((((((((h.setCell (p:=⟨p,0,Jn⟩) hp (Ji Jl r0.1)).setCell (p:=⟨p,1,Jn⟩) hp (Jp r0.2.1)).setCell (p:=⟨p,2,Jn⟩) hp (Ji Jl r0.2.2.1)).setCell (p:=⟨p,3,Jn⟩) hp (Jp r0.2.2.2)).setCell (p:=⟨p,4,Jn⟩) hp (Ji Jl r1.1)).setCell (p:=⟨p,5,Jn⟩) hp (Jp r1.2.1)).setCell (p:=⟨p,6,Jn⟩) hp (Ji Jl r1.2.2.1)).setCell (p:=⟨p,7,Jn⟩) hp (Jp r1.2.2.2)).setCell (p:=⟨p,8,Jn⟩) hp (Ji Jl r2.1)).setCell (p:=⟨p,9,Jn⟩) hp (Jp r2.2.1)).setCell (p:=⟨p,10,Jn⟩) hp (Ji Jl r2.2.2.1)).setCell (p:=⟨p,11,Jn⟩) hp (Jp r2.2.2.2))
def Yw(w:JW)(p:Nat)(qs:List Rat)(k:Nat)(wr:JW):Prop:=
 (∃rs:List R4,rs.length=3/\Jh wr p (flat rs)/\∀(i:Nat) (r:R4) (q:Rat),i<k->rs[i]?=Jo r->qs[i]?=Jo q->VAt wr r q)/\Jh wr (p-1) (flat [Jm,Jm,Jm])/\Below w.heap.size w wr
theorem JZ{w wr:JW}{p:Nat}{qs:List Rat}{k:Nat}{r0:R4}{q0:Rat}{rs:List R4}(hk:k<3)(hl:rs.length=3)(hc:Jh wr p (flat rs))(hq0:qs[k]?=Jo q0)(hr:VAt wr r0 q0)(h:∀(i:Nat) (r:R4) (q:Rat),i<k->rs[i]?=Jo r->qs[i]?=Jo q->VAt wr r q)(hz:Jh wr (p-1) (flat [Jm,Jm,Jm]))(hp:w.heap.size<p)(hb:Below w.heap.size w wr) :
  Yw w p qs (k+1) (put4at wr p k (Ji Jl r0.1) (Jp r0.2.1) (Ji Jl r0.2.2.1) (Jp r0.2.2.2)):=by
 have hh:=G2 wr p k (Ji Jl r0.1) (Jp r0.2.1) (Ji Jl r0.2.2.1) (Jp r0.2.2.2);refine⟨⟨rs.set k r0,by rw[Fa];exact hl,hc.put4at (by omega) r0,fun i r q hi h1 h2=>?_⟩,?_,Gz hb (Fe hp) k _ _ _ _⟩
 ·by_cases e:i=k
  ·subst e;rw[List.getElem?_set_self (by omega)]at h1
   injection h1 with h1
   rw[hq0]at h2
   injection h2 with h2
   rw[←h1,←h2];exact hr.wrote hc hh.1 hh.2
  ·rw[EZ (fun h=>e h.symm)]at h1;exact(h i r q (by omega) h1 h2).wrote hc hh.1 hh.2
 ·exact(((hz.other (by omega) _ _).other (by omega) _ _).other (by omega) _ _).other (by omega) _ _
theorem VJ{α:Type}{l:List α}(h:l.length=3):∃x y z,l=[x,y,z]:=by
 match l,h with
 | [x,y,z],_=>exact⟨x,y,z,rfl⟩
theorem Zz(n0 n1 n2:Int)(w:JW)(h0:I64 n0)(h1:I64 n1)(h2:I64 n2) :
  Calls Tryz.prog 59 #[.agg #[Ji Jl n0,Ji Jl n1,Ji Jl n2]] w (YX ((n0:Int):Rat) ((n1:Int):Rat) ((n2:Int):Rat) w):=by
 have HF0:=Lh (fun w=>YL n0 w h0);have HF1:=Lh (fun w=>YL n1 w h1);have HF2:=Lh (fun w=>YL n2 w h2);have kb:=((((E7 w.heap.size w).alloc (E8 _) (Jc #[Ji Jl n0,Ji Jl n1,Ji Jl n2] 109)).alloc (by simp) (Jc #[Ji Jl 0,Jp Jn,Ji Jl 0,Jp Jn,Ji Jl 0,Jp Jn,Ji Jl 0,Jp Jn,Ji Jl 0,Jp Jn,Ji Jl 0,Jp Jn] 35)).alloc (by simp;omega) (Jc #[Ji Jl 0,Jp Jn,Ji Jl 0,Jp Jn,Ji Jl 0,Jp Jn,Ji Jl 0,Jp Jn,Ji Jl 0,Jp Jn,Ji Jl 0,Jp Jn] 35));have Hst:=Lh (show Yw w (w.heap.size+2) [((n0:Int):Rat),((n1:Int):Rat),((n2:Int):Rat)] 0 (((w.alloc (Jc #[Ji Jl n0,Ji Jl n1,Ji Jl n2] 109)).alloc (Jc #[Ji Jl 0,Jp Jn,Ji Jl 0,Jp Jn,Ji Jl 0,Jp Jn,Ji Jl 0,Jp Jn,Ji Jl 0,Jp Jn,Ji Jl 0,Jp Jn] 35)).alloc (Jc #[Ji Jl 0,Jp Jn,Ji Jl 0,Jp Jn,Ji Jl 0,Jp Jn,Ji Jl 0,Jp Jn,Ji Jl 0,Jp Jn,Ji Jl 0,Jp Jn] 35)) from
  ⟨⟨[Jm,Jm,Jm],rfl,by have:=Jh.new (((w.alloc (Jc #[Ji Jl n0,Ji Jl n1,Ji Jl n2] 109)).alloc (Jc #[Ji Jl 0,Jp Jn,Ji Jl 0,Jp Jn,Ji Jl 0,Jp Jn,Ji Jl 0,Jp Jn,Ji Jl 0,Jp Jn,Ji Jl 0,Jp Jn] 35))) #[Ji Jl 0,Jp Jn,Ji Jl 0,Jp Jn,Ji Jl 0,Jp Jn,Ji Jl 0,Jp Jn,Ji Jl 0,Jp Jn,Ji Jl 0,Jp Jn] 35; simp only [E4] at this; exact this,fun i r q h=>absurd h (EY _)⟩,
   by have:=(Jh.new (w.alloc (Jc #[Ji Jl n0,Ji Jl n1,Ji Jl n2] 109)) #[Ji Jl 0,Jp Jn,Ji Jl 0,Jp Jn,Ji Jl 0,Jp Jn,Ji Jl 0,Jp Jn,Ji Jl 0,Jp Jn,Ji Jl 0,Jp Jn] 35).keep ((E7 _ _).alloc (E8 _) (Jc #[Ji Jl 0,Jp Jn,Ji Jl 0,Jp Jn,Ji Jl 0,Jp Jn,Ji Jl 0,Jp Jn,Ji Jl 0,Jp Jn,Ji Jl 0,Jp Jn] 35)); simp only [E4] at this; exact this,kb⟩)
 have hx0:=fun W:JW=>show(Instr.index 109 (.agg #[Ji Jl n0,Ji Jl n1,Ji Jl n2]) (Ji Jl 0)).run Tryz.prog W= .ok (Ji Jl n0) W from rfl;have hx1:=fun W:JW=>show(Instr.index 109 (.agg #[Ji Jl n0,Ji Jl n1,Ji Jl n2]) (Ji Jl 1)).run Tryz.prog W= .ok (Ji Jl n1) W from rfl;have hx2:=fun W:JW=>show(Instr.index 109 (.agg #[Ji Jl n0,Ji Jl n1,Ji Jl n2]) (Ji Jl 2)).run Tryz.prog W= .ok (Ji Jl n2) W from rfl;clear h0 h1 h2 kb;go_enter Tryz.func59,Tryz.ntmps59;go_wp2_with fail
 go_loopw [7] (fun v wr=>∃(k:Nat) (z:Int),k<=3/\z=(k:Int)/\v=Ji Jl z/\Yw w (w.heap.size+2) [((n0:Int):Rat),((n1:Int):Rat),((n2:Int):Rat)] k wr) (fun v _=>3-(intOf v).toNat)
 case atStart=>exact⟨0,0,by decide,rfl,rfl,Hst.out⟩
 case round=>
  obtain⟨k,z,hk,hzk,rfl,⟨rs,hl,hc,hr⟩,hz,hb⟩:=hrel;obtain⟨x0,x1,x2,rfl⟩:∃x0 x1 x2,rs=[x0,x1,x2]:=VJ hl;have Hc:=Lh hc;have Hr:=Lh hr;have Hz:=Lh hz;have Hb:=Lh hb;clear hl hc hr hz hb;obtain rfl|rfl|rfl|rfl:k=0\/k=1\/k=2\/k=3:=by omega
  ·obtain rfl:z=0:=hzk;go_wp2_with fail
   refine(HF0.out _).mono ?_;rintro e w1⟨a,P,b,Q,rfl,hv,h1⟩;have Hc:=Lh (Hc.out.keep h1);have Hz:=Lh (Hz.out.keep h1);have Hb:=Lh (Jd Hb.out h1);have Hf:=Lh (JZ (k:=0) (r0:=(a,P,b,Q)) (by decide) rfl Hc.out rfl hv (fun i r q h2 h3 h4=>(Hr.out i r q h2 h3 h4).keep h1) Hz.out (by omega) Hb.out);clear hv h1;have f0:w1.frozen? ⟨w.heap.size+1+1,0,Jn⟩=false:=Hc.out.fz 0;have m0:w1.cell? ⟨w.heap.size+1+1,0,Jn⟩=Jo (Ji Jl x0.1):=Hc.out.at_ 0;have f1:w1.frozen? ⟨w.heap.size+1+1,1,Jn⟩=false:=Hc.out.fz 1;have m1:w1.cell? ⟨w.heap.size+1+1,1,Jn⟩=Jo (Jp x0.2.1):=Hc.out.at_ 1;have f2:w1.frozen? ⟨w.heap.size+1+1,2,Jn⟩=false:=Hc.out.fz 2;have m2:w1.cell? ⟨w.heap.size+1+1,2,Jn⟩=Jo (Ji Jl x0.2.2.1):=Hc.out.at_ 2;have f3:w1.frozen? ⟨w.heap.size+1+1,3,Jn⟩=false:=Hc.out.fz 3;have m3:w1.cell? ⟨w.heap.size+1+1,3,Jn⟩=Jo (Jp x0.2.2.2):=Hc.out.at_ 3;go_wp2_with fail
   go_roundw;case rel=>exact⟨1,1,by decide,rfl,by go_num,Hf.out⟩
   case measure=>simp[intOf]
  ·obtain rfl:z=1:=hzk;go_wp2_with fail
   refine(HF1.out _).mono ?_;rintro e w1⟨a,P,b,Q,rfl,hv,h1⟩;have Hc:=Lh (Hc.out.keep h1);have Hz:=Lh (Hz.out.keep h1);have Hb:=Lh (Jd Hb.out h1);have Hf:=Lh (JZ (k:=1) (r0:=(a,P,b,Q)) (by decide) rfl Hc.out rfl hv (fun i r q h2 h3 h4=>(Hr.out i r q h2 h3 h4).keep h1) Hz.out (by omega) Hb.out);clear hv h1;have f0:w1.frozen? ⟨w.heap.size+1+1,4,Jn⟩=false:=Hc.out.fz 4;have m0:w1.cell? ⟨w.heap.size+1+1,4,Jn⟩=Jo (Ji Jl x1.1):=Hc.out.at_ 4;have f1:w1.frozen? ⟨w.heap.size+1+1,5,Jn⟩=false:=Hc.out.fz 5;have m1:w1.cell? ⟨w.heap.size+1+1,5,Jn⟩=Jo (Jp x1.2.1):=Hc.out.at_ 5;have f2:w1.frozen? ⟨w.heap.size+1+1,6,Jn⟩=false:=Hc.out.fz 6;have m2:w1.cell? ⟨w.heap.size+1+1,6,Jn⟩=Jo (Ji Jl x1.2.2.1):=Hc.out.at_ 6;have f3:w1.frozen? ⟨w.heap.size+1+1,7,Jn⟩=false:=Hc.out.fz 7;have m3:w1.cell? ⟨w.heap.size+1+1,7,Jn⟩=Jo (Jp x1.2.2.2):=Hc.out.at_ 7;go_wp2_with fail
   go_roundw;case rel=>exact⟨2,2,by decide,rfl,by go_num,Hf.out⟩
   case measure=>simp[intOf]
  ·obtain rfl:z=2:=hzk;go_wp2_with fail
   refine(HF2.out _).mono ?_;rintro e w1⟨a,P,b,Q,rfl,hv,h1⟩;have Hc:=Lh (Hc.out.keep h1);have Hz:=Lh (Hz.out.keep h1);have Hb:=Lh (Jd Hb.out h1);have Hf:=Lh (JZ (k:=2) (r0:=(a,P,b,Q)) (by decide) rfl Hc.out rfl hv (fun i r q h2 h3 h4=>(Hr.out i r q h2 h3 h4).keep h1) Hz.out (by omega) Hb.out);clear hv h1;have f0:w1.frozen? ⟨w.heap.size+1+1,8,Jn⟩=false:=Hc.out.fz 8;have m0:w1.cell? ⟨w.heap.size+1+1,8,Jn⟩=Jo (Ji Jl x2.1):=Hc.out.at_ 8;have f1:w1.frozen? ⟨w.heap.size+1+1,9,Jn⟩=false:=Hc.out.fz 9;have m1:w1.cell? ⟨w.heap.size+1+1,9,Jn⟩=Jo (Jp x2.2.1):=Hc.out.at_ 9;have f2:w1.frozen? ⟨w.heap.size+1+1,10,Jn⟩=false:=Hc.out.fz 10;have m2:w1.cell? ⟨w.heap.size+1+1,10,Jn⟩=Jo (Ji Jl x2.2.2.1):=Hc.out.at_ 10;have f3:w1.frozen? ⟨w.heap.size+1+1,11,Jn⟩=false:=Hc.out.fz 11;have m3:w1.cell? ⟨w.heap.size+1+1,11,Jn⟩=Jo (Jp x2.2.2.2):=Hc.out.at_ 11;go_wp2_with fail
   go_roundw;case rel=>exact⟨3,3,by decide,rfl,by go_num,Hf.out⟩
   case measure=>simp[intOf]
  ·obtain rfl:z=3:=hzk;have Hz':=Hz.out;have Hc':=Hc.out;have f0:wr.frozen? ⟨w.heap.size+1,0,Jn⟩=false:=Hz.out.fz 0;have z0:wr.cell? ⟨w.heap.size+1,0,Jn⟩=Jo (Ji Jl 0):=Hz.out.at_ 0;have m0:wr.cell? ⟨w.heap.size+1+1,0,Jn⟩=Jo (Ji Jl x0.1):=Hc.out.at_ 0;have f1:wr.frozen? ⟨w.heap.size+1,1,Jn⟩=false:=Hz.out.fz 1;have z1:wr.cell? ⟨w.heap.size+1,1,Jn⟩=Jo (Jp Jn):=Hz.out.at_ 1;have m1:wr.cell? ⟨w.heap.size+1+1,1,Jn⟩=Jo (Jp x0.2.1):=Hc.out.at_ 1;have f2:wr.frozen? ⟨w.heap.size+1,2,Jn⟩=false:=Hz.out.fz 2;have z2:wr.cell? ⟨w.heap.size+1,2,Jn⟩=Jo (Ji Jl 0):=Hz.out.at_ 2;have m2:wr.cell? ⟨w.heap.size+1+1,2,Jn⟩=Jo (Ji Jl x0.2.2.1):=Hc.out.at_ 2;have f3:wr.frozen? ⟨w.heap.size+1,3,Jn⟩=false:=Hz.out.fz 3;have z3:wr.cell? ⟨w.heap.size+1,3,Jn⟩=Jo (Jp Jn):=Hz.out.at_ 3;have m3:wr.cell? ⟨w.heap.size+1+1,3,Jn⟩=Jo (Jp x0.2.2.2):=Hc.out.at_ 3;have f4:wr.frozen? ⟨w.heap.size+1,4,Jn⟩=false:=Hz.out.fz 4;have z4:wr.cell? ⟨w.heap.size+1,4,Jn⟩=Jo (Ji Jl 0):=Hz.out.at_ 4;have m4:wr.cell? ⟨w.heap.size+1+1,4,Jn⟩=Jo (Ji Jl x1.1):=Hc.out.at_ 4;have f5:wr.frozen? ⟨w.heap.size+1,5,Jn⟩=false:=Hz.out.fz 5;have z5:wr.cell? ⟨w.heap.size+1,5,Jn⟩=Jo (Jp Jn):=Hz.out.at_ 5;have m5:wr.cell? ⟨w.heap.size+1+1,5,Jn⟩=Jo (Jp x1.2.1):=Hc.out.at_ 5;have f6:wr.frozen? ⟨w.heap.size+1,6,Jn⟩=false:=Hz.out.fz 6;have z6:wr.cell? ⟨w.heap.size+1,6,Jn⟩=Jo (Ji Jl 0):=Hz.out.at_ 6;have m6:wr.cell? ⟨w.heap.size+1+1,6,Jn⟩=Jo (Ji Jl x1.2.2.1):=Hc.out.at_ 6;have f7:wr.frozen? ⟨w.heap.size+1,7,Jn⟩=false:=Hz.out.fz 7;have z7:wr.cell? ⟨w.heap.size+1,7,Jn⟩=Jo (Jp Jn):=Hz.out.at_ 7
   have m7:wr.cell? ⟨w.heap.size+1+1,7,Jn⟩=Jo (Jp x1.2.2.2):=Hc.out.at_ 7;have f8:wr.frozen? ⟨w.heap.size+1,8,Jn⟩=false:=Hz.out.fz 8;have z8:wr.cell? ⟨w.heap.size+1,8,Jn⟩=Jo (Ji Jl 0):=Hz.out.at_ 8;have m8:wr.cell? ⟨w.heap.size+1+1,8,Jn⟩=Jo (Ji Jl x2.1):=Hc.out.at_ 8;have f9:wr.frozen? ⟨w.heap.size+1,9,Jn⟩=false:=Hz.out.fz 9;have z9:wr.cell? ⟨w.heap.size+1,9,Jn⟩=Jo (Jp Jn):=Hz.out.at_ 9;have m9:wr.cell? ⟨w.heap.size+1+1,9,Jn⟩=Jo (Jp x2.2.1):=Hc.out.at_ 9;have f10:wr.frozen? ⟨w.heap.size+1,10,Jn⟩=false:=Hz.out.fz 10;have z10:wr.cell? ⟨w.heap.size+1,10,Jn⟩=Jo (Ji Jl 0):=Hz.out.at_ 10;have m10:wr.cell? ⟨w.heap.size+1+1,10,Jn⟩=Jo (Ji Jl x2.2.2.1):=Hc.out.at_ 10;have f11:wr.frozen? ⟨w.heap.size+1,11,Jn⟩=false:=Hz.out.fz 11;have z11:wr.cell? ⟨w.heap.size+1,11,Jn⟩=Jo (Jp Jn):=Hz.out.at_ 11;have m11:wr.cell? ⟨w.heap.size+1+1,11,Jn⟩=Jo (Jp x2.2.2.2):=Hc.out.at_ 11;have Hv:=Lh ((⟨Hr.out 0 x0 _ (by decide) rfl rfl,Hr.out 1 x1 _ (by decide) rfl rfl,Hr.out 2 x2 _ (by decide) rfl rfl⟩:VecV wr x0 x1 x2 _ _ _).wrote Hz.out (JA wr _ x0 x1 x2).1 (JA wr _ x0 x1 x2).2);have Hf:=Lh (JV Hb.out (show w.heap.size<=w.heap.size+2-1 by omega) x0 x1 x2);clear Hz' Hc';go_wp2;exact bodyPost_ret (v:=Jw x0 x1 x2) (by simp[Jw,results,Tryz.results59,go_sem,z0,z1,z2,z3,z4,z5,z6,z7,z8,z9,z10,z11]) rfl ⟨x0,x1,x2,rfl,Hv.out,Hf.out⟩
def GA(w:JW)(p:Nat)(qs:List ByteArray)(k:Nat)(wr:JW):Prop:=
 (∃ss:List ByteArray,ss.length=3/\Jh wr p (YH ss)/\∀(i:Nat) (q:ByteArray),i<k->qs[i]?=Jo q->ss[i]?=Jo q)/\Jh wr (p-1) (YH [⟨#[]⟩,⟨#[]⟩,⟨#[]⟩])/\Below w.heap.size w wr
theorem Uv{w wr:JW}{p:Nat}{qs:List ByteArray}{k:Nat}{s:ByteArray}{ss:List ByteArray}(hk:k<3)(hl:ss.length=3)(hc:Jh wr p (YH ss))(hs:qs[k]?=Jo s)(h:∀(i:Nat) (q:ByteArray),i<k->qs[i]?=Jo q->ss[i]?=Jo q)(hz:Jh wr (p-1) (YH [⟨#[]⟩,⟨#[]⟩,⟨#[]⟩]))(hp:w.heap.size<p)(hb:Below w.heap.size w wr) :
  GA w p qs (k+1) (wr.setCell ⟨p,k,Jn⟩ (Js s)):=by
 have h1:=hc.set k (Js s) (by unfold YH;rw[List.length_map];omega);rw[Wu]at h1;exact⟨⟨ss.set k s,by rw[Fa];exact hl,h1,KM hs (by omega) h⟩,hz.other (by omega) _ _,hb.setCell (p:=⟨p,k,Jn⟩) (Fe hp) _⟩
theorem KG(x0 x1 x2:R4)(s0 s1 s2:ByteArray)(w:JW)(h0:RatT w x0 s0)(h1:RatT w x1 s1)(h2:RatT w x2 s2)(hg:Good w) :
  Calls Tryz.prog 60 #[Jw x0 x1 x2] w fun e w'=>e= .returned (.agg #[Js s0,Js s1,Js s2])/\Below w.heap.size w w':=by
 obtain⟨q0,v0,rfl,n0,d0⟩:=h0;obtain⟨q1,v1,rfl,n1,d1⟩:=h1;obtain⟨q2,v2,rfl,n2,d2⟩:=h2;have kb:=(((E7 w.heap.size w).alloc (E8 _) (Jc #[Ji Jl x0.1,Jp x0.2.1,Ji Jl x0.2.2.1,Jp x0.2.2.2,Ji Jl x1.1,Jp x1.2.1,Ji Jl x1.2.2.1,Jp x1.2.2.2,Ji Jl x2.1,Jp x2.2.1,Ji Jl x2.2.2.1,Jp x2.2.2.2] 35)).alloc (by simp) (Jc #[Js ⟨#[]⟩,Js ⟨#[]⟩,Js ⟨#[]⟩] 111)).alloc (by simp;omega) (Jc #[Js ⟨#[]⟩,Js ⟨#[]⟩,Js ⟨#[]⟩] 111);have HB:=Lh (((Jh.new w #[Ji Jl x0.1,Jp x0.2.1,Ji Jl x0.2.2.1,Jp x0.2.2.2,Ji Jl x1.1,Jp x1.2.1,Ji Jl x1.2.2.1,Jp x1.2.2.2,Ji Jl x2.1,Jp x2.2.1,Ji Jl x2.2.2.1,Jp x2.2.2.2] 35).keep ((E7 _ _).alloc (E8 _) (Jc #[Js ⟨#[]⟩,Js ⟨#[]⟩,Js ⟨#[]⟩] 111))).keep ((E7 _ _).alloc (E8 _) (Jc #[Js ⟨#[]⟩,Js ⟨#[]⟩,Js ⟨#[]⟩] 111)));have Hst:=Lh (show GA w (w.heap.size+2) [Qs q0,Qs q1,Qs q2] 0 (((w.alloc (Jc #[Ji Jl x0.1,Jp x0.2.1,Ji Jl x0.2.2.1,Jp x0.2.2.2,Ji Jl x1.1,Jp x1.2.1,Ji Jl x1.2.2.1,Jp x1.2.2.2,Ji Jl x2.1,Jp x2.2.1,Ji Jl x2.2.2.1,Jp x2.2.2.2] 35)).alloc (Jc #[Js ⟨#[]⟩,Js ⟨#[]⟩,Js ⟨#[]⟩] 111)).alloc (Jc #[Js ⟨#[]⟩,Js ⟨#[]⟩,Js ⟨#[]⟩] 111)) from
  ⟨⟨[⟨#[]⟩,⟨#[]⟩,⟨#[]⟩],rfl,by have:=Jh.new ((w.alloc (Jc #[Ji Jl x0.1,Jp x0.2.1,Ji Jl x0.2.2.1,Jp x0.2.2.2,Ji Jl x1.1,Jp x1.2.1,Ji Jl x1.2.2.1,Jp x1.2.2.2,Ji Jl x2.1,Jp x2.2.1,Ji Jl x2.2.2.1,Jp x2.2.2.2] 35)).alloc (Jc #[Js ⟨#[]⟩,Js ⟨#[]⟩,Js ⟨#[]⟩] 111)) #[Js ⟨#[]⟩,Js ⟨#[]⟩,Js ⟨#[]⟩] 111; simp only [E4] at this; exact this,fun i q h=>absurd h (EY _)⟩,
   by have:=(Jh.new (w.alloc (Jc #[Ji Jl x0.1,Jp x0.2.1,Ji Jl x0.2.2.1,Jp x0.2.2.2,Ji Jl x1.1,Jp x1.2.1,Ji Jl x1.2.2.1,Jp x1.2.2.2,Ji Jl x2.1,Jp x2.2.1,Ji Jl x2.2.2.1,Jp x2.2.2.2] 35)) #[Js ⟨#[]⟩,Js ⟨#[]⟩,Js ⟨#[]⟩] 111).keep ((E7 _ _).alloc (E8 _) (Jc #[Js ⟨#[]⟩,Js ⟨#[]⟩,Js ⟨#[]⟩] 111)); simp only [E4] at this; exact this,kb⟩)
 have HN0:=Lh (fun w' (hb:Below w.heap.size w w')=>Uy _ _ _ _ q0 w' (v0.keep hb) n0 d0 (hg.below hb));have HN1:=Lh (fun w' (hb:Below w.heap.size w w')=>Uy _ _ _ _ q1 w' (v1.keep hb) n1 d1 (hg.below hb));have HN2:=Lh (fun w' (hb:Below w.heap.size w w')=>Uy _ _ _ _ q2 w' (v2.keep hb) n2 d2 (hg.below hb));generalize Qs q0=s0 at Hst HN0 ⊢;generalize Qs q1=s1 at Hst HN1 ⊢;generalize Qs q2=s2 at Hst HN2 ⊢;have hwb:w.heap.size<(((w.alloc (Jc #[Ji Jl x0.1,Jp x0.2.1,Ji Jl x0.2.2.1,Jp x0.2.2.2,Ji Jl x1.1,Jp x1.2.1,Ji Jl x1.2.2.1,Jp x1.2.2.2,Ji Jl x2.1,Jp x2.2.1,Ji Jl x2.2.2.1,Jp x2.2.2.2] 35)).alloc (Jc #[Js ⟨#[]⟩,Js ⟨#[]⟩,Js ⟨#[]⟩] 111)).alloc (Jc #[Js ⟨#[]⟩,Js ⟨#[]⟩,Js ⟨#[]⟩] 111)).heap.size:=by simp;omega
 have HX:=Lh (fun wr (hb:Below (w.heap.size+1) (((w.alloc (Jc #[Ji Jl x0.1,Jp x0.2.1,Ji Jl x0.2.2.1,Jp x0.2.2.2,Ji Jl x1.1,Jp x1.2.1,Ji Jl x1.2.2.1,Jp x1.2.2.2,Ji Jl x2.1,Jp x2.2.1,Ji Jl x2.2.2.1,Jp x2.2.2.2] 35)).alloc (Jc #[Js ⟨#[]⟩,Js ⟨#[]⟩,Js ⟨#[]⟩] 111)).alloc (Jc #[Js ⟨#[]⟩,Js ⟨#[]⟩,Js ⟨#[]⟩] 111)) wr) (i:Nat)=>(hb.cell (p:=⟨w.heap.size,i,Jn⟩) (Nat.lt_succ_self _)).trans (HB.out.at_ i));clear v0 v1 v2 n0 n1 n2 d0 d1 d2 hg kb hwb HB;unfold Jw;go_enter Tryz.func60,Tryz.ntmps60;go_wp2_with fail
 go_loopw [5] (fun v wr=>∃(k:Nat) (z:Int),k<=3/\z=(k:Int)/\v=Ji Jl z/\GA w (w.heap.size+2) [s0,s1,s2] k wr/\Below (w.heap.size+1) (((w.alloc (Jc #[Ji Jl x0.1,Jp x0.2.1,Ji Jl x0.2.2.1,Jp x0.2.2.2,Ji Jl x1.1,Jp x1.2.1,Ji Jl x1.2.2.1,Jp x1.2.2.2,Ji Jl x2.1,Jp x2.2.1,Ji Jl x2.2.2.1,Jp x2.2.2.2] 35)).alloc (Jc #[Js ⟨#[]⟩,Js ⟨#[]⟩,Js ⟨#[]⟩] 111)).alloc (Jc #[Js ⟨#[]⟩,Js ⟨#[]⟩,Js ⟨#[]⟩] 111)) wr) (fun v _=>3-(intOf v).toNat)
 case atStart=>exact⟨0,0,by decide,rfl,rfl,Hst.out,E7 _ _⟩
 case round=>
  obtain⟨k,z,hk,hzk,rfl,⟨⟨ss,hl,hc,hr⟩,hz,hb⟩,hb1⟩:=hrel;obtain⟨t0,t1,t2,rfl⟩:∃x y z,ss=[x,y,z]:=VJ hl;have Hc:=Lh hc;have Hr:=Lh hr;have Hz:=Lh hz;have Hb:=Lh hb;have Hb1:=Lh hb1;clear hl hc hr hz hb hb1;obtain rfl|rfl|rfl|rfl:k=0\/k=1\/k=2\/k=3:=by omega
  ·obtain rfl:z=0:=hzk;have c0:wr.cell? ⟨w.heap.size,0,Jn⟩=Jo (Ji Jl x0.1):=HX.out wr Hb1.out 0;have c1:wr.cell? ⟨w.heap.size,1,Jn⟩=Jo (Jp x0.2.1):=HX.out wr Hb1.out 1;have c2:wr.cell? ⟨w.heap.size,2,Jn⟩=Jo (Ji Jl x0.2.2.1):=HX.out wr Hb1.out 2;have c3:wr.cell? ⟨w.heap.size,3,Jn⟩=Jo (Jp x0.2.2.2):=HX.out wr Hb1.out 3;go_wp2_with fail
   refine(HN0.out _ Hb.out).mono ?_;rintro e w1⟨rfl,h1⟩;have hsz:=Hb1.out.size;simp only[E4]at hsz;have Hc:=Lh (Hc.out.keep h1);have Hz:=Lh (Hz.out.keep h1);have Hb1:=Lh (Hb1.out.trans (h1.mono (by omega)));have Hb:=Lh (Jd Hb.out h1);have Hf:=Lh (Uv (k:=0) (by decide) rfl Hc.out rfl Hr.out Hz.out (by omega) Hb.out);have Hg:=Lh (Hb1.out.setCell (p:=⟨w.heap.size+2,0,Jn⟩) (by show w.heap.size+1<=w.heap.size+2;omega) (Js s0));have f0:w1.frozen? ⟨w.heap.size+1+1,0,Jn⟩=false:=Hc.out.fz 0;have m0:w1.cell? ⟨w.heap.size+1+1,0,Jn⟩=Jo (Js t0):=Hc.out.at_ 0;clear h1 c0 c1 c2 c3 hsz;go_wp2_with fail
   go_roundw;case rel=>exact⟨1,1,by decide,rfl,by go_num,Hf.out,Hg.out⟩
   case measure=>simp[intOf]
  ·obtain rfl:z=1:=hzk;have c0:wr.cell? ⟨w.heap.size,4,Jn⟩=Jo (Ji Jl x1.1):=HX.out wr Hb1.out 4;have c1:wr.cell? ⟨w.heap.size,5,Jn⟩=Jo (Jp x1.2.1):=HX.out wr Hb1.out 5;have c2:wr.cell? ⟨w.heap.size,6,Jn⟩=Jo (Ji Jl x1.2.2.1):=HX.out wr Hb1.out 6;have c3:wr.cell? ⟨w.heap.size,7,Jn⟩=Jo (Jp x1.2.2.2):=HX.out wr Hb1.out 7;go_wp2_with fail
   refine(HN1.out _ Hb.out).mono ?_;rintro e w1⟨rfl,h1⟩;have hsz:=Hb1.out.size;simp only[E4]at hsz;have Hc:=Lh (Hc.out.keep h1);have Hz:=Lh (Hz.out.keep h1);have Hb1:=Lh (Hb1.out.trans (h1.mono (by omega)));have Hb:=Lh (Jd Hb.out h1);have Hf:=Lh (Uv (k:=1) (by decide) rfl Hc.out rfl Hr.out Hz.out (by omega) Hb.out);have Hg:=Lh (Hb1.out.setCell (p:=⟨w.heap.size+2,1,Jn⟩) (by show w.heap.size+1<=w.heap.size+2;omega) (Js s1));have f0:w1.frozen? ⟨w.heap.size+1+1,1,Jn⟩=false:=Hc.out.fz 1;have m0:w1.cell? ⟨w.heap.size+1+1,1,Jn⟩=Jo (Js t1):=Hc.out.at_ 1;clear h1 c0 c1 c2 c3 hsz;go_wp2_with fail
   go_roundw;case rel=>exact⟨2,2,by decide,rfl,by go_num,Hf.out,Hg.out⟩
   case measure=>simp[intOf]
  ·obtain rfl:z=2:=hzk;have c0:wr.cell? ⟨w.heap.size,8,Jn⟩=Jo (Ji Jl x2.1):=HX.out wr Hb1.out 8;have c1:wr.cell? ⟨w.heap.size,9,Jn⟩=Jo (Jp x2.2.1):=HX.out wr Hb1.out 9;have c2:wr.cell? ⟨w.heap.size,10,Jn⟩=Jo (Ji Jl x2.2.2.1):=HX.out wr Hb1.out 10;have c3:wr.cell? ⟨w.heap.size,11,Jn⟩=Jo (Jp x2.2.2.2):=HX.out wr Hb1.out 11;go_wp2_with fail
   refine(HN2.out _ Hb.out).mono ?_;rintro e w1⟨rfl,h1⟩;have hsz:=Hb1.out.size;simp only[E4]at hsz;have Hc:=Lh (Hc.out.keep h1);have Hz:=Lh (Hz.out.keep h1);have Hb1:=Lh (Hb1.out.trans (h1.mono (by omega)));have Hb:=Lh (Jd Hb.out h1);have Hf:=Lh (Uv (k:=2) (by decide) rfl Hc.out rfl Hr.out Hz.out (by omega) Hb.out);have Hg:=Lh (Hb1.out.setCell (p:=⟨w.heap.size+2,2,Jn⟩) (by show w.heap.size+1<=w.heap.size+2;omega) (Js s2));have f0:w1.frozen? ⟨w.heap.size+1+1,2,Jn⟩=false:=Hc.out.fz 2;have m0:w1.cell? ⟨w.heap.size+1+1,2,Jn⟩=Jo (Js t2):=Hc.out.at_ 2;clear h1 c0 c1 c2 c3 hsz;go_wp2_with fail
   go_roundw;case rel=>exact⟨3,3,by decide,rfl,by go_num,Hf.out,Hg.out⟩
   case measure=>simp[intOf]
  ·obtain rfl:z=3:=hzk;obtain rfl:t0=s0:=by have:=Hr.out 0 s0 (by decide) rfl;simpa using this
   obtain rfl:t1=s1:=by have:=Hr.out 1 s1 (by decide) rfl;simpa using this
   obtain rfl:t2=s2:=by have:=Hr.out 2 s2 (by decide) rfl;simpa using this
   have f0:wr.frozen? ⟨w.heap.size+1,0,Jn⟩=false:=Hz.out.fz 0;have z0:wr.cell? ⟨w.heap.size+1,0,Jn⟩=Jo (Js ⟨#[]⟩):=Hz.out.at_ 0;have m0:wr.cell? ⟨w.heap.size+1+1,0,Jn⟩=Jo (Js t0):=Hc.out.at_ 0;have f1:wr.frozen? ⟨w.heap.size+1,1,Jn⟩=false:=Hz.out.fz 1;have z1:wr.cell? ⟨w.heap.size+1,1,Jn⟩=Jo (Js ⟨#[]⟩):=Hz.out.at_ 1;have m1:wr.cell? ⟨w.heap.size+1+1,1,Jn⟩=Jo (Js t1):=Hc.out.at_ 1;have f2:wr.frozen? ⟨w.heap.size+1,2,Jn⟩=false:=Hz.out.fz 2;have z2:wr.cell? ⟨w.heap.size+1,2,Jn⟩=Jo (Js ⟨#[]⟩):=Hz.out.at_ 2;have m2:wr.cell? ⟨w.heap.size+1+1,2,Jn⟩=Jo (Js t2):=Hc.out.at_ 2;have Hf:=Lh (((Hb.out.setCell (p:=⟨w.heap.size+1,0,Jn⟩) (F0 _) (Js t0)).setCell (p:=⟨w.heap.size+1,1,Jn⟩) (F0 _) (Js t1)).setCell (p:=⟨w.heap.size+1,2,Jn⟩) (F0 _) (Js t2));go_wp2;exact bodyPost_ret (v:= .agg #[Js t0,Js t1,Js t2]) (by simp[results,Tryz.results60,go_sem,z0,z1,z2]) rfl ⟨rfl,Hf.out⟩
