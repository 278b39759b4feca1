/- GC25: Reg Ph2 Seq SeqL RatK -/
import Derived.Test.YtekhdklbfincpaaGreatDoorGC16
import Derived.Test.YtekhdklbfincpaaGreatDoorGC24
import Derived.Test.YtekhdklbfincpaaGreatDoorGC23
set_option maxRecDepth 100000
set_option maxHeartbeats 16000000
namespace Go.Proofs.YtekhdklbfincpaaGreatDoor
open Go.Value renaming string→Js
open _root_.Option renaming some→Jo
open Go renaming World→JW
open _root_.Int renaming natAbs_natCast→M0,natAbs_ediv_le_natAbs→M8,natAbs_neg→Ms,natCast_ediv→Mu
open Go.Region renaming ready→M1,wanted→M4,Mode→M6
open _root_.ByteArray renaming size_append→M2,data_extract→Mw,data_append→My,ext→Mz
open _root_.Rat renaming divInt→M3
open _root_.Nat renaming lt_of_le_of_lt→M5,gcd_pos_of_pos_right→Mr,gcd_le_right→Mt,div_le_self→Mv,gcd→Mx
open _root_.Array renaming getD_eq_getD_getElem?→M7
open _root_.Bool renaming and_eq_true→M9
open Go.RowKit
structure Pent (p:Prop):Prop where
 out:p
section
variable {P:Program} {md:M6} {ops:Array Oper} {Q:Exit->Act->JW->Prop} {S:JW->Prop} {k:Nat}
def Mp(P:Program)(md:M6)(ops:Array Oper)(Q:Exit->Act->JW->Prop)(I:(Nat->Bool)->Act->JW->Prop)(i:Nat)(o:Oper):Prop:=
 ∀(d:Nat->Bool) (a:Act) (w:JW),I d a w->d i=false->(∀j,QC md ops i j=true->d j=true)->∀K:Act->JW->Prop,Shut (∀b v,I (also d i) b v->K b v)->Pent (if M4 o (yielded ops a.tmps)=true then Oper.wp P o a w K Q else K (a.put o.dst undef) w)
def OC(P:Program)(md:M6)(ops:Array Oper)(Q:Exit->Act->JW->Prop)(I:(Nat->Bool)->Act->JW->Prop):List Nat->Prop
 | []=>True
 | i :: r=>(∃o,ops[i]?=Jo o/\Mp P md ops Q I i o)/\OC P md ops Q I r
theorem OC.steps{I:(Nat->Bool)->Act->JW->Prop}:∀ {E:List Nat},OC P md ops Q I E->OD P md ops Q I E
 | [],_=>trivial
 | _ :: _,⟨⟨o,ho,h⟩,hr⟩=>⟨⟨o,ho,fun d a w hI hi ha K hK=>(h d a w hI hi ha K hK).out⟩,OC.steps hr⟩
theorem Till.phaseP(E:List Nat)(l1:Array Bool)(m:Nat)(J:Act->(Nat->Bool)->Act->JW->Prop){l0:Array Bool}{n:Nat}{a0:Act}{w0:JW}(hn:n=E.length+m)(hc:Vo md ops l0 l1 E=true)(hS:∀d a w,J a0 d a w->S w)
  (h0:J a0 (fun j=>l0.getD j false) a0 w0) (steps:OC P md ops Q (J a0) E)
  (fin:∀d a w,J a0 d a w->(∀i∈E,d i=true)->Pent (Till P md ops Q S k m l1 a w)):Till P md ops Q S k n l0 a0 w0:=
 Till.phase E l1 m J hn hc hS h0 steps.steps fun d a w h hE=>(fin d a w h hE).out
end
def V7(w:JW)(t:Value)(q:Rat):Prop:=∃(a:Int) (P:Option Addr) (b:Int) (Q:Option Addr),t= .tuple #[.agg #[.int .i64 a,.pointer P,.int .i64 b,.pointer Q],.int .i64 0]/\RatV w a P b Q q
theorem V7.keep{w w':JW}{t:Value}{q:Rat}(h:V7 w t q)(hb:Below w.heap.size w w'):V7 w' t q:=by
 obtain⟨a,P,b,Q,e,hx⟩:=h;exact⟨a,P,b,Q,e,hx.keep hb⟩
theorem Wf{w:JW}{p:Nat}{a:Int}{P:Option Addr}{b:Int}{Q:Option Addr}{q:Rat}{x0 x1 x2 x3:Value}(h:Jh w p [x0,x1,x2,x3])(hp:[x0,x1,x2,x3].all UK=true)(hi:RatV w a P b Q q):VarR (put4 w p (.int .i64 a) (.pointer P) (.int .i64 b) (.pointer Q)) p a P b Q q:=
 ⟨h.put4 _ _ _ _,hi.wrote h hp (Jr w p _ _ _ _).1 (Jr w p _ _ _ _).2⟩
theorem V7.wrote{w:JW}{t:Value}{q:Rat}{p:Nat}{x0 x1 x2 x3:Value}(h:V7 w t q)(hc:Jh w p [x0,x1,x2,x3])(hp:[x0,x1,x2,x3].all UK=true){y0 y1 y2 y3:Value}:V7 (put4 w p y0 y1 y2 y3) t q:=by
 obtain⟨a,P,b,Q,e,hx⟩:=h;exact⟨a,P,b,Q,e,hx.wrote hc hp (Jr w p _ _ _ _).1 (Jr w p _ _ _ _).2⟩
theorem QZ.wrote{w:JW}{t:Value}{q:Rat}{p:Nat}{x0 x1 x2 x3:Value}(h:QZ w t q)(hc:Jh w p [x0,x1,x2,x3])(hp:[x0,x1,x2,x3].all UK=true){y0 y1 y2 y3:Value}:QZ (put4 w p y0 y1 y2 y3) t q:=by
 obtain⟨a,P,b,Q,e,hx⟩:=h;exact⟨a,P,b,Q,e,hx.wrote hc hp (Jr w p _ _ _ _).1 (Jr w p _ _ _ _).2⟩
theorem QD.wrote{w:JW}{t:Value}{z:Int}{p:Nat}{x0 x1 x2 x3:Value}(h:QD w t z)(hc:Jh w p [x0,x1,x2,x3])(hp:[x0,x1,x2,x3].all UK=true){y0 y1 y2 y3:Value}:QD (put4 w p y0 y1 y2 y3) t z:=by
 obtain⟨a,P,e,hx⟩:=h;exact⟨a,P,e,hx.wrote hc hp (Jr w p _ _ _ _).1 (Jr w p _ _ _ _).2⟩
def EE(b:Nat)(w:JW)(t:Value)(q:Rat):Prop:=∃(p:Nat) (x:Int) (X:Option Addr) (y:Int) (Y:Option Addr),t= .pointer (Jo ⟨p,0,none⟩)/\b<=p/\VarR w p x X y Y q
theorem EE.keep{b:Nat}{w w':JW}{t:Value}{q:Rat}(h:EE b w t q)(hb:Below w.heap.size w w'):EE b w' t q:=by
 obtain⟨p,x,X,y,Y,e,hp,hv⟩:=h;exact⟨p,x,X,y,Y,e,hp,hv.keep hb⟩
section
variable {P:Program} {md:M6} {ops:Array Oper} {Q:Exit->Act->JW->Prop} {S:JW->Prop} {k:Nat}
end
section
variable {P:Program} {md:M6} {ops:Array Oper} {Q:Exit->Act->JW->Prop} {S:JW->Prop} {k:Nat}
theorem Till.sk(i m:Nat)(d:Tmp){oi:Oper}{n:Nat}{l:Array Bool}{a:Act}{w:JW}(hS:S w)(h:Till P md ops Q S k n (l.setIfInBounds i true) (a.put (Jo d) undef) w)(hi:ops[i]?=Jo oi:=by exact rfl)(hd:oi.dst=Jo d:=by exact rfl)(hs:Region.noSelect ops=true:=by kernel_rfl)(hf:Region.free md ops l i=true:=by kernel_rfl)(hr:(M1 md ops l).contains i=true:=by kernel_rfl)(hm:QC md ops m i=true:=by kernel_rfl)(hmk:(m ==k || QC md ops k m)=true:=by kernel_rfl)(hik:(i ==k || i ==m)=false:=by kernel_rfl)(hkl:(l.getD k true || l.getD m true)=false:=by kernel_rfl)
  (hQ:∀c a w,Q (.panic c) (a.put (Jo d) undef) w->Q (.panic c) a w:=by exact fun _ _ _ h=>h) (hw:M4 oi (yielded ops a.tmps)=false:=by kernel_rfl):Till P md ops Q S k (n+1) l a w:=by
 rw[Bool.or_eq_false_iff]at hkl hik;rw[←hd]at h hQ;exact Till.first hi hs hQ hm (by simpa using hmk) (by simpa using hik.1) (by simpa using hik.2) n l a w hkl.2 (Region.free_spec hi hf) (by simpa using hr) hkl.1 (Or.inr ⟨hw,rfl⟩) hS h
end
section
variable {P:Program} {md:M6} {ops:Array Oper} {Q:Exit->Act->JW->Prop} {S:JW->Prop} {k:Nat}
theorem Till.firstL{i:Nat}{oi:Oper}{u:Value}(hi:ops[i]?=Jo oi)(hs:Region.noSelect ops=true)(hQ:∀c a w,Q (.panic c) (a.put oi.dst u) w->Q (.panic c) a w){L:List Nat}(hL:∀m∈L,QC md ops m i=true\/∃m'∈L,QC md ops m m'=true)(hkL:k∈L)(hiL:i ∉ L)(n:Nat) :
  ∀(l:Array Bool) (a:Act) (w:JW),(∀m∈L,l.getD m true=false)->(∀j oj,ops[j]?=Jo oj->j≠i->l.getD j true=false->(∀e∈oj.after,Region.binds md e=true->e.on≠i)->oi.apart ops oj=true) ->
   i∈M1 md ops l->YieldsIf P ops S oi u a->S w->Till P md ops Q S k n (l.setIfInBounds i true) (a.put oi.dst u) w->Till P md ops Q S k (n+1) l a w:=by
 have hik:i≠k:=fun e=>hiL (e ▸ hkL)
 induction n with
 | zero=>
  intro l a w _ _ hr hy hS H;refine⟨fun h0=>absurd hr (by rw[h0];simp),fun j hj=>?_⟩;rcases Nat.decEq j i with hne|heq
  ·have:=ready_mono hj hne;rw[H.1]at this;cases this
  ·subst heq;exact hy.wpOp hi hS ⟨fun _=>hS,H⟩
 | succ n ih=>
  intro l a w hl0 hfree hr hy hS H;have hi0:=(mem_ready.1 hr).1;refine⟨fun h0=>absurd hr (by rw[h0];simp),fun j hj=>?_⟩;rcases Nat.decEq j i with hne|heq
  ·obtain⟨hj0,oj,hoj,hafter⟩:=mem_ready.1 hj;have open_:∀m':Nat,l.getD m' true=false->∀e∈oj.after,Region.binds md e=true->e.on≠m':=by
    intro m' hm0 e he hb h1;have h2:=hafter e he hb;rw[h1]at h2;cases hl:l[m']? with
    | none=>simp[M7,hl]at h2
    | some t=>simp[M7,hl]at h2 hm0;rw[h2]at hm0;cases hm0
   have hnone:=open_ i hi0;have apart:∀m':Nat,l.getD m' true=false->QC md ops j m'=true->False:=by
    intro m' hm0 hw;unfold QC at hw;rw[hoj]at hw;obtain⟨e,he,h2⟩:=Array.any_eq_true'.1 hw;simp only[M9,beq_iff_eq]at h2;exact open_ m' hm0 e he h2.1 h2.2
   have hjL:j ∉ L:=fun hj'=>by
    rcases hL j hj' with h1|⟨m',hm',h1⟩
    ·exact apart i hi0 h1
    ·exact apart m' (hl0 m' hm') h1
   have hjk:j≠k:=fun e=>hjL (e ▸ hkL);have hl2:∀m∈L,(l.setIfInBounds j true).getD m true=false:=fun m hm=>by
    rw[getD_set_ne true (show j≠m from fun e=>hjL (by rw[e];exact hm))];exact hl0 m hm
   have step:=wpOp_putIf hoj (hfree j oj hoj hne hj0 hnone) (fun cs b=>Region.noSelect_spec hs i oi cs b hi) (fun cs b=>Region.noSelect_spec hs j oj cs b hoj) hQ hy (H.2 j (ready_mono hj hne));refine wpOp_mono (fun b v hb=>?_) step;have hSv:S v:=hb.2.1 (by rw[getD_set_ne true hjk,getD_set_ne true hik];exact hl0 k hkL);refine⟨fun _=>hSv,ih (l.setIfInBounds j true) b v hl2 (fun m om hm hmi hml hmn=>hfree m om hm hmi ?_ hmn) (ready_mono hr (Ne.symm hne)) hb.1 hSv ?_⟩
   ·rcases Nat.decEq j m with h1|h1
    ·rwa [getD_set_ne true h1]at hml
    ·subst h1;exact hj0
   ·rw[Array.setIfInBounds_comm _ _ hne];exact hb.2.2
  ·subst heq;exact hy.wpOp hi hS ⟨fun _=>hS,H⟩
theorem Zq{L:List Nat}{i:Nat}(h:(L.all fun m=>QC md ops m i || L.any fun m'=>QC md ops m m')=true):∀m∈L,QC md ops m i=true\/∃m'∈L,QC md ops m m'=true:=fun m hm=>by
 have h1:=List.all_eq_true.1 h m hm;rw[Bool.or_eq_true]at h1;exact h1.imp id fun h2=>List.any_eq_true.1 h2
theorem Till.tL(i:Nat)(L:List Nat)(d:Tmp)(u:Value){oi:Oper}{n:Nat}{l:Array Bool}{a:Act}{w:JW}(hS:S w)(h:Till P md ops Q S k n (l.setIfInBounds i true) (a.put (Jo d) u) w)(hi:ops[i]?=Jo oi:=by exact rfl)(hd:oi.dst=Jo d:=by exact rfl)(hs:Region.noSelect ops=true:=by kernel_rfl)(hf:Region.free md ops l i=true:=by kernel_rfl)(hr:(M1 md ops l).contains i=true:=by kernel_rfl)(hL:(L.all fun m=>QC md ops m i || L.any fun m'=>QC md ops m m')=true:=by kernel_rfl)(hkL:L.contains k=true:=by kernel_rfl)(hiL:L.contains i=false:=by kernel_rfl)(hl0:(L.all fun m=>!l.getD m true)=true:=by kernel_rfl)
  (hQ:∀c a w,Q (.panic c) (a.put (Jo d) u) w->Q (.panic c) a w:=by exact fun _ _ _ h=>h) (hw:M4 oi (yielded ops a.tmps)=true:=by kernel_rfl) (hy:∀w,S w->(execOp a.eval oi).run P w= .ok (.value u) w:=by(intro w hSw;(try dsimp only at hSw);go_split_ands;go_simp)):Till P md ops Q S k (n+1) l a w:=by
 rw[←hd]at h hQ;exact Till.firstL hi hs hQ (Zq hL) (by simpa using hkL) (by simpa using hiL) n l a w (fun m hm=>by simpa using List.all_eq_true.1 hl0 m hm) (Region.free_spec hi hf) (by simpa using hr) (Or.inl ⟨hw,hy⟩) hS h
theorem Till.sL(i:Nat)(L:List Nat)(d:Tmp){oi:Oper}{n:Nat}{l:Array Bool}{a:Act}{w:JW}(hS:S w)(h:Till P md ops Q S k n (l.setIfInBounds i true) (a.put (Jo d) undef) w)(hi:ops[i]?=Jo oi:=by exact rfl)(hd:oi.dst=Jo d:=by exact rfl)(hs:Region.noSelect ops=true:=by kernel_rfl)(hf:Region.free md ops l i=true:=by kernel_rfl)(hr:(M1 md ops l).contains i=true:=by kernel_rfl)(hL:(L.all fun m=>QC md ops m i || L.any fun m'=>QC md ops m m')=true:=by kernel_rfl)(hkL:L.contains k=true:=by kernel_rfl)(hiL:L.contains i=false:=by kernel_rfl)(hl0:(L.all fun m=>!l.getD m true)=true:=by kernel_rfl)
  (hQ:∀c a w,Q (.panic c) (a.put (Jo d) undef) w->Q (.panic c) a w:=by exact fun _ _ _ h=>h) (hw:M4 oi (yielded ops a.tmps)=false:=by kernel_rfl):Till P md ops Q S k (n+1) l a w:=by
 rw[←hd]at h hQ;exact Till.firstL hi hs hQ (Zq hL) (by simpa using hkL) (by simpa using hiL) n l a w (fun m hm=>by simpa using List.all_eq_true.1 hl0 m hm) (Region.free_spec hi hf) (by simpa using hr) (Or.inr ⟨hw,rfl⟩) hS h
theorem Till.bH{id:Nat}{a:Act}{w:JW}(k:Nat){S:JW->Prop}(HS:RowKit.Hid (∀w',Below w.heap.size w w'->S w'))(h:∀v,RowKit.Hid (Below w.heap.size w v)->Till P .any ops Q S k ops.size (Array.replicate ops.size false) a v)(hm:P.follows .mixedOrders=true:=by kernel_rfl):(Code.region id ops true).wp P Q a w:=
 Till.begin k S hm (HS _ (Below.refl _ _).drew) (fun _=>h _ (Lh (Below.refl _ _).drew))
theorem Till.oY{i:Nat}{o:Oper}{u:Value}{n:Nat}{l:Array Bool}{a:Act}{w:JW}(hr:M1 md ops l=[i])(ho:ops[i]?=Jo o)(hy:YieldsIf P ops S o u a)(hS:S w)(h:Till P md ops Q S k n (l.setIfInBounds i true) (a.put o.dst u) w):Till P md ops Q S k (n+1) l a w:=by
 refine⟨fun h0=>absurd (hr.symm.trans h0) (by simp),fun j hj=>?_⟩;rw[hr]at hj;obtain rfl:j=i:=by simpa using hj
 exact hy.wpOp ho hS ⟨fun _=>hS,h⟩
theorem Till.oN(i:Nat)(d:Tmp){o:Oper}{n:Nat}{l:Array Bool}{a:Act}{w:JW}(hS:S w)(h:Till P md ops Q S k n (l.setIfInBounds i true) (a.put (Jo d) undef) w)(hr:M1 md ops l=[i]:=by kernel_rfl)(ho:ops[i]?=Jo o:=by exact rfl)(hd:o.dst=Jo d:=by exact rfl)(hw:M4 o (yielded ops a.tmps)=false:=by kernel_rfl):Till P md ops Q S k (n+1) l a w:=by
 rw[←hd]at h;exact Till.oY hr ho (Or.inr ⟨hw,rfl⟩) hS h
theorem Till.oP(i:Nat)(d:Tmp)(u:Value){o:Oper}{n:Nat}{l:Array Bool}{a:Act}{w:JW}(hS:S w)(h:Till P md ops Q S k n (l.setIfInBounds i true) (a.put (Jo d) u) w)(hr:M1 md ops l=[i]:=by kernel_rfl)(ho:ops[i]?=Jo o:=by exact rfl)(hd:o.dst=Jo d:=by exact rfl)(hw:M4 o (yielded ops a.tmps)=true:=by kernel_rfl)(hy:∀w,S w->(execOp a.eval o).run P w= .ok (.value u) w:=by(intro w hSw;(try dsimp only at hSw);go_split_ands;go_simp)):Till P md ops Q S k (n+1) l a w:=by
 rw[←hd]at h;exact Till.oY hr ho (Or.inl ⟨hw,hy⟩) hS h
end
theorem Wg{z:Int}(h0:0<=z)(h:z≠1):((txt z).toList == [49])=false:=by
 rw[ByteArray.toList_eq,beq_eq_false_iff_ne];intro e;have h1:=(Vb z).2;rw[e]at h1;have h2:dval (dl [49])=1:=by decide +kernel
 omega
theorem QO{z:Int}(h:z.natAbs<ten 2900):(txt z).size<=2901:=QY z h (by decide)
theorem DP(z:Int)(kn:Nat)(w:JW)(hz:z.natAbs<ten 2900)(hk:kn<ten 2900)(hkp:0<kn) :
  Calls Tryz.prog 77 #[Js (txt z),Js (txt (kn:Int))] w fun e w'=>e= .returned (Js (Jj (M3 z kn)))/\Below w.heap.size w w':=by
 have HS:=Lh (fun w=>Qe (kn:Int) w (by have:=QO (z:=(kn:Int)) (by rw[M0];exact hk);omega));rw[show sgn (kn:Int)=1 by unfold sgn;rw[if_neg (by omega),if_pos (by omega)]]at HS;have sz:=QO hz;have sk:(txt (kn:Int)).size<=2901:=QO (by rw[M0];exact hk);obtain⟨hqn,hqd⟩:=Q9 (n:=z) (k:=kn) hkp;obtain⟨g,hge⟩:∃g,Mx (z).natAbs kn=g:=⟨_,rfl⟩;have hgp:0<g:=by rw[←hge];exact Mr _ hkp
 have hgk:g<=kn:=by rw[←hge];exact Mt _ hkp
 have sg:(txt (g:Int)).size<=2901:=QO (by rw[M0];exact M5 hgk hk);have HG:=Lh (fun w=>Up z (kn:Int) w (by omega) (by omega));have HD:=Lh (fun w=>Yl z (g:Int) w (by omega) (by omega) (by omega));have HE:=Lh (fun w=>Yl (kn:Int) (g:Int) w (by omega) (by omega) (by omega));rw[M0,hge]at HG;rw[hge]at hqn hqd;obtain⟨q,hqq⟩:∃q,M3 z kn=q:=⟨_,rfl⟩;rw[hqq]at hqn hqd;rw[hqq];have Hqn:=Lh hqn;have Hqd:=Lh (show((q.den:Nat):Int)=(kn:Int)/(g:Int)by rw[hqd];exact Mu _ _);have Hgp:=Lh (show(0:Int)<(g:Int)by omega);have sn:(txt q.num).size<=2901:=QO (by
  have h1:=M8 (z) (g:Int);rw[←hqn]at h1;omega)
 have sd:(txt (q.den:Int)).size<=2901:=QO (by
  rw [M0,hqd]; exact M5 (Mv _ _) hk)
 have hn1:q.den≠1->((txt (q.den:Int)).toList == [49])=false:=fun h=>Wg (by omega) (by omega);obtain⟨T,hT⟩:∃T,txt q.num=T:=⟨_,rfl⟩;obtain⟨U,hU⟩:∃U,txt (q.den:Int)=U:=⟨_,rfl⟩;rw[hT]at sn;rw[hU]at sd hn1;have HT:=Lh hT;have HU:=Lh hU;have Hways:=Lh (show (q.den=1/\Jj q=T/\U=⟨#[49]⟩)\/(q.den≠1/\Jj q=T ++ ⟨#[47]⟩ ++ U/\(U.toList == [49])=false) by
  by_cases h:q.den=1
  ·exact .inl ⟨h,by unfold Jj;rw[if_pos h,hT],by rw[←hU,h];exact V9⟩
  ·exact .inr ⟨h,by unfold Jj; rw [if_neg h,hT,hU],hn1 h⟩)
 obtain⟨X,hX⟩:∃X,Jj q=X:=⟨_,rfl⟩;rw[hX]at Hways ⊢;obtain⟨Z,hZ⟩:∃Z,txt z=Z:=⟨_,rfl⟩;obtain⟨Y,hY⟩:∃Y,txt (kn:Int)=Y:=⟨_,rfl⟩;obtain⟨G,hG⟩:∃G,txt (g:Int)=G:=⟨_,rfl⟩;rw[hZ,hY,hG]at HG;rw[hZ,hG]at HD;rw[hY,hG]at HE;rw[hY]at HS;rw[hZ,hY];clear sz sk hqn hqd hge hgp hgk sg hn1 hT hU hZ hY hG hz hk hkp hqq hX;go_enter Tryz.func77,Tryz.ntmps77;go_wp2_with fail
 refine(HS.out _).mono ?_;rintro e w1⟨rfl,rfl⟩;have K2:=Lh (Below.refl w.heap.size w);go_wp2_with fail
 refine(HG.out _).mono ?_;rintro e w3⟨rfl,h3⟩;have K3:=Lh (Jd K2.out h3);clear h3;go_wp2_with fail
 refine(HD.out _).mono ?_;rintro e w4⟨⟨q1,r1,rfl,hdm⟩,h4⟩;have e1:=Vx Hgp.out hdm;rw[←Hqn.out]at e1;subst e1;have K4:=Lh (Jd K3.out h4);clear h4 hdm;rw[HT.out];go_wp2_with fail
 refine(HE.out _).mono ?_;rintro e w5⟨⟨q2,r2,rfl,hdm⟩,h5⟩;have e2:=Vx Hgp.out hdm;rw[←Hqd.out]at e2;subst e2;have K5:=Lh (Jd K4.out h5);clear h5 hdm;rw[HU.out];rcases Hways.out with⟨hd,hfin,rfl⟩|⟨hd,hfin,hn1⟩
 ·have Hfin:=Lh hfin;clear hd hfin;go_wp2;go_ret;exact⟨by rw[Hfin.out];rfl,K5.out⟩
 ·have Hfin:=Lh hfin;have cat1:∀W:JW,(Op.stringOp .add T ⟨#[47]⟩).run Tryz.prog W= .ok (Js (T ++ ⟨#[47]⟩)) W:=fun W=>run_string_add_sum W _ _ (by show T.size+1<=_;omega);have cat2:∀W:JW,(Op.stringOp .add (T ++ ⟨#[47]⟩) U).run Tryz.prog W= .ok (Js (T ++ ⟨#[47]⟩ ++ U)) W:=fun W=>run_string_add_sum W _ _ (by rw[M2];show T.size+1+U.size<=_;omega);clear hd hfin;go_wp2;go_ret;exact⟨by rw[Hfin.out];rfl,K5.out⟩
theorem DQ(z:Int)(kn:Nat)(w:JW)(hz:(-z).natAbs<ten 2900)(hk:kn<ten 2900)(hkp:0<kn) :
  Calls Tryz.prog 77 #[Js (txt z),Js (txt (-(kn:Int)))] w fun e w'=>e= .returned (Js (Jj (M3 (-z) kn)))/\Below w.heap.size w w':=by
 have sz0:(txt z).size<=2901:=QO (by rw[Ms]at hz;exact hz);have sk0:(txt (-(kn:Int))).size<=2901:=QO (by rw[Ms,M0];exact hk);have HS:=Lh (fun w=>Qe (-(kn:Int)) w (by omega));rw[show sgn (-(kn:Int))=-1 by unfold sgn;rw[if_pos (by omega)]]at HS;have HN:=Lh (fun w=>U5 z w (by omega));have HM:=Lh (fun w=>U5 (-(kn:Int)) w (by omega));rw[Int.neg_neg]at HM;have sz:=QO hz;have sk:(txt (kn:Int)).size<=2901:=QO (by rw[M0];exact hk);obtain⟨hqn,hqd⟩:=Q9 (n:=(-z)) (k:=kn) hkp;obtain⟨g,hge⟩:∃g,Mx ((-z)).natAbs kn=g:=⟨_,rfl⟩;have hgp:0<g:=by rw[←hge];exact Mr _ hkp
 have hgk:g<=kn:=by rw[←hge];exact Mt _ hkp
 have sg:(txt (g:Int)).size<=2901:=QO (by rw[M0];exact M5 hgk hk);have HG:=Lh (fun w=>Up (-z) (kn:Int) w (by omega) (by omega));have HD:=Lh (fun w=>Yl (-z) (g:Int) w (by omega) (by omega) (by omega));have HE:=Lh (fun w=>Yl (kn:Int) (g:Int) w (by omega) (by omega) (by omega));rw[M0,hge]at HG;rw[hge]at hqn hqd;obtain⟨q,hqq⟩:∃q,M3 (-z) kn=q:=⟨_,rfl⟩;rw[hqq]at hqn hqd;rw[hqq];have Hqn:=Lh hqn;have Hqd:=Lh (show((q.den:Nat):Int)=(kn:Int)/(g:Int)by rw[hqd];exact Mu _ _);have Hgp:=Lh (show(0:Int)<(g:Int)by omega);have sn:(txt q.num).size<=2901:=QO (by
  have h1:=M8 ((-z)) (g:Int);rw[←hqn]at h1;omega)
 have sd:(txt (q.den:Int)).size<=2901:=QO (by
  rw [M0,hqd]; exact M5 (Mv _ _) hk)
 have hn1:q.den≠1->((txt (q.den:Int)).toList == [49])=false:=fun h=>Wg (by omega) (by omega);obtain⟨T,hT⟩:∃T,txt q.num=T:=⟨_,rfl⟩;obtain⟨U,hU⟩:∃U,txt (q.den:Int)=U:=⟨_,rfl⟩;rw[hT]at sn;rw[hU]at sd hn1;have HT:=Lh hT;have HU:=Lh hU;have Hways:=Lh (show (q.den=1/\Jj q=T/\U=⟨#[49]⟩)\/(q.den≠1/\Jj q=T ++ ⟨#[47]⟩ ++ U/\(U.toList == [49])=false) by
  by_cases h:q.den=1
  ·exact .inl ⟨h,by unfold Jj;rw[if_pos h,hT],by rw[←hU,h];exact V9⟩
  ·exact .inr ⟨h,by unfold Jj; rw [if_neg h,hT,hU],hn1 h⟩)
 obtain⟨X,hX⟩:∃X,Jj q=X:=⟨_,rfl⟩;rw[hX]at Hways ⊢;obtain⟨Z,hZ⟩:∃Z,txt (-z)=Z:=⟨_,rfl⟩;obtain⟨Y,hY⟩:∃Y,txt (kn:Int)=Y:=⟨_,rfl⟩;obtain⟨G,hG⟩:∃G,txt (g:Int)=G:=⟨_,rfl⟩;obtain⟨Z0,hZ0⟩:∃Z,txt z=Z:=⟨_,rfl⟩;obtain⟨Y0,hY0⟩:∃Y,txt (-(kn:Int))=Y:=⟨_,rfl⟩;rw[hZ,hY,hG]at HG;rw[hZ,hG]at HD;rw[hY,hG]at HE;rw[hY0]at HS;rw[hZ0,hZ]at HN;rw[hY0,hY]at HM;rw[hZ0,hY0];clear sz sk hqn hqd hge hgp hgk sg hn1 hT hU hZ hY hG hz hk hkp hqq hX hZ0 hY0 sz0 sk0;go_enter Tryz.func77,Tryz.ntmps77;go_wp2_with fail
 refine(HS.out _).mono ?_;rintro e w1⟨rfl,rfl⟩;go_wp2_with fail
 refine(HN.out _).mono ?_;rintro e w1⟨rfl,h1⟩;have K1:=Lh h1;clear h1;go_wp2_with fail
 refine(HM.out _).mono ?_;rintro e w2⟨rfl,h2⟩;have K2:=Lh (Jd K1.out h2);clear h2;go_wp2_with fail
 refine(HG.out _).mono ?_;rintro e w3⟨rfl,h3⟩;have K3:=Lh (Jd K2.out h3);clear h3;go_wp2_with fail
 refine(HD.out _).mono ?_;rintro e w4⟨⟨q1,r1,rfl,hdm⟩,h4⟩;have e1:=Vx Hgp.out hdm;rw[←Hqn.out]at e1;subst e1;have K4:=Lh (Jd K3.out h4);clear h4 hdm;rw[HT.out];go_wp2_with fail
 refine(HE.out _).mono ?_;rintro e w5⟨⟨q2,r2,rfl,hdm⟩,h5⟩;have e2:=Vx Hgp.out hdm;rw[←Hqd.out]at e2;subst e2;have K5:=Lh (Jd K4.out h5);clear h5 hdm;rw[HU.out];rcases Hways.out with⟨hd,hfin,rfl⟩|⟨hd,hfin,hn1⟩
 ·have Hfin:=Lh hfin;clear hd hfin;go_wp2;go_ret;exact⟨by rw[Hfin.out];rfl,K5.out⟩
 ·have Hfin:=Lh hfin;have cat1:∀W:JW,(Op.stringOp .add T ⟨#[47]⟩).run Tryz.prog W= .ok (Js (T ++ ⟨#[47]⟩)) W:=fun W=>run_string_add_sum W _ _ (by show T.size+1<=_;omega);have cat2:∀W:JW,(Op.stringOp .add (T ++ ⟨#[47]⟩) U).run Tryz.prog W= .ok (Js (T ++ ⟨#[47]⟩ ++ U)) W:=fun W=>run_string_add_sum W _ _ (by rw[M2];show T.size+1+U.size<=_;omega);clear hd hfin;go_wp2;go_ret;exact⟨by rw[Hfin.out];rfl,K5.out⟩
theorem U4(z k:Int)(w:JW)(hz:z.natAbs<ten 2900)(hk:k.natAbs<ten 2900)(hk0:k≠0) :
  Calls Tryz.prog 77 #[Js (txt z),Js (txt k)] w fun e w'=>e= .returned (Js (Jj (M3 z k)))/\Below w.heap.size w w':=by
 rcases Int.lt_or_gt_of_ne hk0 with hn|hp
 ·have e:k=-((k.natAbs:Nat):Int):=by omega
  have e2:M3 z k=M3 (-z) (k.natAbs:Nat):=by rw[←ZG];congr 1;omega
  have h:=DQ z k.natAbs w (by rw[Ms];exact hz) hk (by omega);rw[←e]at h;rw[e2];exact h
 ·have e:k=((k.natAbs:Nat):Int):=by omega
  have h:=DP z k.natAbs w hz hk (by omega);rw[←e]at h;exact h
def Yp(l:List UInt8):Bool:=l.all (· ==48)
def Qm(s:ByteArray):Nat:=s.data.toList.findIdx (· ==47)
theorem KY(s:ByteArray):Qm s<=s.size:=by
 have:=List.findIdx_le_length (xs:=s.data.toList) (p:=(· ==47))
 rwa [JU]at this
theorem Wq{s:ByteArray}(h:Qm s<s.size):s=s.extract 0 (Qm s) ++ ⟨#[47]⟩ ++ s.extract (Qm s+1) s.size:=by
 have hlt:Qm s<s.data.toList.length:=by rw[JU];exact h
 have h47:=List.findIdx_getElem (xs:=s.data.toList) (p:=(· ==47)) (w:=hlt);have h47:s.data.toList[Qm s]=47:=eq_of_beq h47;apply Mz;apply Array.toList_inj.1;have e:(s.extract 0 (Qm s) ++ ⟨#[47]⟩ ++ s.extract (Qm s+1) s.size).data.toList=(s.extract 0 (Qm s)).data.toList ++ [47] ++ (s.extract (Qm s+1) s.size).data.toList:=by simp[My]
 rw[e,Ub];have e2:(s.extract 0 (Qm s)).data.toList=s.data.toList.take (Qm s):=by simp[Mw]
 rw[e2,List.append_assoc,List.singleton_append,←h47,←List.drop_eq_getElem_cons hlt,List.take_append_drop]
def Tx(s:ByteArray)(z:Int):Prop:=Qu s=0/\zOf s=z
theorem Tx.txt{s:ByteArray}{z:Int}(h:Tx s z):txt z=s:=by rw[←h.2];exact Gr h.1
def IsR(s:ByteArray):Prop:=∃q:Rat,Jj q=s/\Tx (txt q.num) q.num/\(q.den≠1->Tx (txt (q.den:Int)) (q.den:Int))/\(txt q.num).size<=s.size/\(q.den≠1->(txt (q.den:Int)).size<=s.size)
theorem Vf(T U:ByteArray):(T ++ ⟨#[47]⟩ ++ U).size=T.size+1+U.size:=by rw[M2,M2];rfl
theorem Np{s:ByteArray}(h:Qu s=0):IsR s:=by
 have e:=Gr h;have hn:((zOf s:Int):Rat).num=zOf s:=Rat.num_intCast _;have hd:((zOf s:Int):Rat).den=1:=Rat.den_intCast _;refine⟨((zOf s:Int):Rat),by unfold Jj;rw[if_pos hd,hn,e],by rw[hn,e];exact⟨h,rfl⟩,fun h1=>absurd hd h1,by rw[hn,e];exact Nat.le_refl _,fun h1=>absurd hd h1⟩
theorem Lv{T U:ByteArray}{z d:Int}(hT:Tx T z)(hU:Tx U d)(hd:1<d)(hg:Mx z.natAbs d.natAbs=1):IsR (T ++ ⟨#[47]⟩ ++ U):=by
 have e1:=hT.txt;have e2:=hU.txt;have hk:d=((d.natAbs:Nat):Int):=by omega
 obtain⟨h1,h2⟩:=Q9 (n:=z) (k:=d.natAbs) (by omega);rw[hg]at h1 h2;rw[Int.natCast_one,Int.ediv_one]at h1;rw[Nat.div_one]at h2;refine⟨M3 z (d.natAbs:Nat),?_,by rw[h1,e1];exact hT,fun _=>by rw[h2,←hk,e2];exact hU,by rw[h1,e1,Vf];omega,fun _=>by rw[h2,←hk,e2,Vf];omega⟩;unfold Jj;rw[if_neg (by omega),h1,h2,←hk,e1,e2]
theorem Z1{den:ByteArray}(hd:JG den.data.toList=true):Yv den=false:=by
 unfold Yv;cases hl:den.data.toList with
 | nil=>rfl
 | cons c l=>
  rw[hl]at hd;unfold JG at hd;rw[List.all_cons,M9]at hd;have h1:=hd.1;rw[List.head?_cons];have:c≠45:=by intro e;rw[e]at h1;revert h1;decide
  simpa using this
theorem Kv{den:ByteArray}(hd:JG den.data.toList=true)(h0:0<den.size)(h1:Yh den=false):Qu den=0/\0<zOf den:=by
 have hn:=Z1 hd;have hb:JE den=den:=by unfold JE;rw[hn];rfl
 have he:=(QM hb).2.2.2 hd h0 (fun⟨hl,_⟩=>by rw[h1]at hl;cases hl);refine⟨he,?_⟩;have hnn:0<=zOf den:=by unfold zOf Jk;rw[hn];simp
 rcases Int.lt_or_eq_of_le hnn with h|h
 ·exact h
 ·exfalso;have e:=Gr he;rw[←h,Qo]at e;rw[←e]at h1
  revert h1
  decide
theorem Ut{l:List UInt8}{n:Nat}(h:(JG l && decide (0<n))=true):JG l=true/\0<n:=by
 rw[M9]at h;exact⟨h.1,of_decide_eq_true h.2⟩
