/- GB25: Reg Ph2 Seq SeqL RatK -/
import Derived.Test.YtekhdklbfincpaaGreatDoorGB16
import Derived.Test.YtekhdklbfincpaaGreatDoorGB24
import Derived.Test.YtekhdklbfincpaaGreatDoorGB23
set_option maxRecDepth 100000
set_option maxHeartbeats 16000000
namespace Go.Proofs.YtekhdklbfincpaaGreatDoor
open Go.Value renaming string→Js
open Go renaming World→JW
open _root_.Int renaming natAbs_natCast→M0,natAbs_ediv_le_natAbs→M9,natAbs_neg→MP,natCast_ediv→MS
open _root_.Bool renaming and_eq_true→M1
open Go.Region renaming Mode→M2,ready→MM,wanted→MQ
open _root_.ByteArray renaming size_append→M3,data_extract→MV,data_append→MX,ext→MY
open _root_.Array renaming getD_eq_getD_getElem?→M4,size_setIfInBounds→M6
open _root_.Rat renaming divInt→M5
open _root_.Nat renaming lt_of_le_of_lt→M7,gcd_pos_of_pos_right→MN,gcd_le_right→MR,div_le_self→MU,gcd→MW
open _root_.List renaming all_eq_true→M8,mem_range→MO,range→MT
open Go.RowKit
structure Pent (p:Prop):Prop where
 out:p
section
variable {P:Program} {md:M2} {ops:Array Oper} {Q:Exit->Act->JW->Prop} {S:JW->Prop} {k:Nat}
def MK(P:Program)(md:M2)(ops:Array Oper)(Q:Exit->Act->JW->Prop)(I:(Nat->Bool)->Act->JW->Prop)(i:Nat)(o:Oper):Prop:=
 ∀(d:Nat->Bool) (a:Act) (w:JW),I d a w->d i=false->(∀j,Qg md ops i j=true->d j=true)->∀K:Act->JW->Prop,Shut (∀b v,I (also d i) b v->K b v)->Pent (if MQ o (yielded ops a.tmps)=true then Oper.wp P o a w K Q else K (a.put o.dst undef) w)
def Gu(P:Program)(md:M2)(ops:Array Oper)(Q:Exit->Act->JW->Prop)(I:(Nat->Bool)->Act->JW->Prop):List Nat->Prop
 | []=>True
 | i :: r=>(∃o,ops[i]?=some o/\MK P md ops Q I i o)/\Gu P md ops Q I r
theorem Gu.steps{I:(Nat->Bool)->Act->JW->Prop}:∀ {E:List Nat},Gu P md ops Q I E->VZ P md ops Q I E
 | [],_=>trivial
 | _ :: _,⟨⟨o,ho,h⟩,hr⟩=>⟨⟨o,ho,fun d a w hI hi ha K hK=>(h d a w hI hi ha K hK).out⟩,Gu.steps hr⟩
theorem Till.phaseP(E:List Nat)(l1:Array Bool)(m:Nat)(J:Act->(Nat->Bool)->Act->JW->Prop){l0:Array Bool}{n:Nat}{a0:Act}{w0:JW}(hn:n=E.length+m)(hc:VJ md ops l0 l1 E=true)(hS:∀d a w,J a0 d a w->S w)
  (h0:J a0 (fun j=>l0.getD j false) a0 w0) (steps:Gu P md ops Q (J a0) E)
  (fin:∀d a w,J a0 d a w->(∀i∈E,d i=true)->Pent (Till P md ops Q S k m l1 a w)):Till P md ops Q S k n l0 a0 w0:=
 Till.phase E l1 m J hn hc hS h0 steps.steps fun d a w h hE=>(fin d a w h hE).out
end
def Gv(w:JW)(t:Value)(q:Rat):Prop:=∃(a:Int) (P:Option Addr) (b:Int) (Q:Option Addr),t= .tuple #[.agg #[.int .i64 a,.pointer P,.int .i64 b,.pointer Q],.int .i64 0]/\RatV w a P b Q q
theorem Gv.keep{w w':JW}{t:Value}{q:Rat}(h:Gv w t q)(hb:Below w.heap.size w w'):Gv w' t q:=by
 obtain⟨a,P,b,Q,e,hx⟩:=h;exact⟨a,P,b,Q,e,hx.keep hb⟩
theorem Wz{w:JW}{p:Nat}{a:Int}{P:Option Addr}{b:Int}{Q:Option Addr}{q:Rat}{x0 x1 x2 x3:Value}(h:Jg w p [x0,x1,x2,x3])(hp:[x0,x1,x2,x3].all UT=true)(hi:RatV w a P b Q q):VarR (put4 w p (.int .i64 a) (.pointer P) (.int .i64 b) (.pointer Q)) p a P b Q q:=
 ⟨h.put4 _ _ _ _,hi.wrote h hp (Jw w p _ _ _ _).1 (Jw w p _ _ _ _).2⟩
theorem Gv.wrote{w:JW}{t:Value}{q:Rat}{p:Nat}{x0 x1 x2 x3:Value}(h:Gv w t q)(hc:Jg w p [x0,x1,x2,x3])(hp:[x0,x1,x2,x3].all UT=true){y0 y1 y2 y3:Value}:Gv (put4 w p y0 y1 y2 y3) t q:=by
 obtain⟨a,P,b,Q,e,hx⟩:=h;exact⟨a,P,b,Q,e,hx.wrote hc hp (Jw w p _ _ _ _).1 (Jw w p _ _ _ _).2⟩
theorem QI.wrote{w:JW}{t:Value}{q:Rat}{p:Nat}{x0 x1 x2 x3:Value}(h:QI w t q)(hc:Jg w p [x0,x1,x2,x3])(hp:[x0,x1,x2,x3].all UT=true){y0 y1 y2 y3:Value}:QI (put4 w p y0 y1 y2 y3) t q:=by
 obtain⟨a,P,b,Q,e,hx⟩:=h;exact⟨a,P,b,Q,e,hx.wrote hc hp (Jw w p _ _ _ _).1 (Jw w p _ _ _ _).2⟩
theorem QE.wrote{w:JW}{t:Value}{z:Int}{p:Nat}{x0 x1 x2 x3:Value}(h:QE w t z)(hc:Jg w p [x0,x1,x2,x3])(hp:[x0,x1,x2,x3].all UT=true){y0 y1 y2 y3:Value}:QE (put4 w p y0 y1 y2 y3) t z:=by
 obtain⟨a,P,e,hx⟩:=h;exact⟨a,P,e,hx.wrote hc hp (Jw w p _ _ _ _).1 (Jw w p _ _ _ _).2⟩
def E4(b:Nat)(w:JW)(t:Value)(q:Rat):Prop:=∃(p:Nat) (x:Int) (X:Option Addr) (y:Int) (Y:Option Addr),t= .pointer (some ⟨p,0,none⟩)/\b<=p/\VarR w p x X y Y q
theorem E4.keep{b:Nat}{w w':JW}{t:Value}{q:Rat}(h:E4 b w t q)(hb:Below w.heap.size w w'):E4 b w' t q:=by
 obtain⟨p,x,X,y,Y,e,hp,hv⟩:=h;exact⟨p,x,X,y,Y,e,hp,hv.keep hb⟩
section
variable {P:Program} {md:M2} {ops:Array Oper} {Q:Exit->Act->JW->Prop} {S:JW->Prop} {k:Nat}
def Fi(md:M2)(ops:Array Oper)(E:List Nat):Nat->Nat->Nat->Bool
  | 0,j,i=>Qg md ops j i
  | n+1,j,i=>Qg md ops j i || E.any fun e=>Qg md ops j e && Fi md ops E n e i
theorem Oj{E:List Nat}{d:Nat->Bool}(hcl:∀i∈E,d i=true->∀j,Qg md ops i j=true->d j=true):∀(n j:Nat),(∀i,Qg md ops j i=true->d i=true)->∀i,Fi md ops E n j i=true->d i=true
  | 0,_,hj,i,h=>hj i h
  | n+1,j,hj,i,h=>by
    unfold Fi at h;rcases Bool.or_eq_true_iff.1 h with h|h
    · exact hj i h
    · obtain⟨e,heE,he⟩:=List.any_eq_true.1 h
      obtain⟨h1,h2⟩:=Bool.and_eq_true_iff.1 he;exact Oj hcl n e (hcl e heE (hj e h1)) i h2
def U4(md:M2)(ops:Array Oper)(l0 l1:Array Bool)(E:List Nat):Bool:=
  ((l0.size ==ops.size) && (l1.size ==ops.size) && E.all fun i=>!l0.getD i false) &&
  (MT ops.size).all fun j=>
    (l1.getD j false ==(E.contains j || l0.getD j false)) &&
    (if E.contains j then ((MT ops.size).all fun i=>!Qg md ops j i || l0.getD i false || (E.contains i && decide (i<j))) && ZJ ops j
     else l0.getD j false || ((MT ops.size).any fun i=>Qg md ops j i && !l1.getD i false) || E.all fun i=>Fi md ops E 5 j i)
theorem Till.phase_aux2{I:(Nat->Bool)->Act->JW->Prop}{E:List Nat}{l0 l1:Array Bool}{m:Nat}(hc:U4 md ops l0 l1 E=true)(hS:∀d a w,I d a w->S w)(steps:VZ P md ops Q I E)
    (fin:∀d a w,I d a w->(∀i∈E,d i=true)->Till P md ops Q S k m l1 a w) :
    ∀(n:Nat) (l:Array Bool) (d:Nat->Bool) (a:Act) (w:JW),E.countP (fun j=>!d j)<=n->l.size=ops.size->(∀j<ops.size,l.getD j false=d j)->(∀j,j ∉ E->j<ops.size->d j=l0.getD j false)->(∀j,l0.getD j false=true->d j=true)->(∀i∈E,d i=true->∀j,Qg md ops i j=true->d j=true)->I d a w->Till P md ops Q S k (n+m) l a w:=by
  unfold U4 at hc;simp only[M1,beq_iff_eq,M8,MO]at hc;obtain⟨⟨⟨hs0,hs1⟩,_⟩,hall⟩:=hc;have done:∀(l:Array Bool) (d:Nat->Bool) (a:Act) (w:JW),l.size=ops.size->(∀j<ops.size,l.getD j false=d j)->(∀j,j ∉ E->j<ops.size->d j=l0.getD j false)->I d a w->(∀i∈E,d i=true)->Till P md ops Q S k m l a w:=by
    intro l d a w hl hd hout hI hE;have e:l=l1:=by
      apply Array.ext (hl.trans hs1.symm);intro j h1 h2;have hj:j<ops.size:=by omega
      have e1:=(hall j hj).1;rw[Qc h2]at e1;have e2:=hd j hj;rw[Qc h1]at e2;rw[e1,e2];by_cases hjE:j∈E
      · rw[hE j hjE,List.contains_iff_mem.2 hjE];rfl
      · rw[hout j hjE hj,show E.contains j=false from by simpa using hjE];rfl
    rw[e];exact fin d a w hI hE
  intro n
  induction n with
  | zero=>
    intro l d a w hn hl hd hout _ _ hI;rw[Nat.zero_add];refine done l d a w hl hd hout hI fun i hi=>?_;have h0:E.countP (fun j=>!d j)=0:=by omega
    have:=List.countP_eq_zero.1 h0 i hi;simpa using this
  | succ n ih=>
    intro l d a w hn hl hd hout hl0 hcl hI;by_cases hE:∀i∈E,d i=true
    · exact Till.raise (done l d a w hl hd hout hI hE) (n+1)
    have hex:∃i,i∈E/\d i=false:=by
      apply Classical.byContradiction;intro hno;refine hE fun i hi=>?_;cases hdi:d i with
      | true=>rfl
      | false=>exact absurd ⟨i,hi,hdi⟩ hno
    rw[Nat.succ_add];refine⟨fun h0=>?_,fun i hi=>?_⟩
    · -- the least one that has not come up is ready
      exfalso;have least:∀b:Nat,∀i,i<b->i∈E->d i=false->False:=by
        intro b
        induction b with
        | zero=>intro i hi;omega
        | succ b ihb=>
          intro i hib hiE hdi;obtain⟨o,ho,_⟩:=steps.at_ i hiE;have his:i<ops.size:=(Array.getElem?_eq_some_iff.1 ho).1;have hcond:=(hall i his).2;rw[if_pos (List.contains_iff_mem.2 hiE)]at hcond;simp only[M8,MO,Bool.or_eq_true,Bool.not_eq_true',M1,decide_eq_true_eq]at hcond;obtain⟨hcond,hwi⟩:=hcond;have hr:i∈MM md ops l:=by
            refine mem_ready.2 ⟨by rw[Qc (by omega)];rw[←Qc (by omega) false,hd i his,hdi],o,ho,fun e he hb=>?_⟩;have hw:=Wx ho he hb;by_cases hes:e.on<ops.size
            · rw[hd _ hes]
              rcases hcond e.on hes with(h1|h1)|h1
              · rw[hw]at h1;cases h1
              · exact hl0 _ h1
              · cases hde:d e.on with
                | true=>rfl
                | false=>exact(ihb e.on (by omega) (List.contains_iff_mem.1 h1.1) hde).elim
            · exfalso
              unfold ZJ at hwi;rw[ho]at hwi;have:=Array.all_eq_true_iff_forall_mem.1 hwi e he;exact hes (by simpa using this)
          rw[h0]at hr;cases hr
      obtain⟨i,hiE,hdi⟩:=hex;exact least (i+1) i (by omega) hiE hdi
    · obtain⟨hi0,o,ho,hafter⟩:=mem_ready.1 hi
      have his:i<ops.size:=(Array.getElem?_eq_some_iff.1 ho).1;have hdi:d i=false:=by rw[←hd i his,Qc (by omega)];rw[Qc (by omega)]at hi0;exact hi0
      have hpre:∀j,Qg md ops i j=true->l.getD j false=true:=Wy ho hafter;have hsz:∀j,l.getD j false=true->j<ops.size:=fun j hj=>by
        rcases Nat.lt_or_ge j l.size with h|h
        · omega
        · simp[M4,Array.getElem?_eq_none h]at hj
      have hpd:∀j,Qg md ops i j=true->d j=true:=fun j hj=>by
        have h1:=hpre j hj;rw[←hd j (hsz j h1)];exact h1
      by_cases hiE:i∈E
      · obtain⟨o',ho',hstep⟩:=steps.at_ i hiE
        have key:wpOp P ops Q i (I (also d i)) a w:=wpOp_step ho' fun K hK=>hstep d a w hI hdi hpd K hK;refine wpOp_mono (fun b v hb=>⟨fun _=>hS _ _ _ hb,?_⟩) key;refine ih (l.setIfInBounds i true) (also d i) b v (by have:=GD hiE hdi;omega) (by rw[M6];exact hl) (fun j hj=>?_) (fun j hjE hj=>?_) (fun j hj0=>?_) (fun e heE hde j hj=>?_) hb
        · unfold also
          split
          · rename_i h;subst h;rw[Qc (by rw[M6];omega)];simp
          · rename_i h
            rw[Qc (by rw[M6];omega),Array.getElem_setIfInBounds_ne (by omega) (Ne.symm h),←hd j hj,Qc (by omega)]
        · unfold also
          rw[if_neg (fun h=>hjE (by rw[h];exact hiE))];exact hout j hjE hj
        · unfold also
          split
          · rfl
          · exact hl0 j hj0
        · have h2:d j=true:=by
            by_cases he:e=i
            · subst he;exact hpd j hj
            · exact hcl e heE (by unfold also at hde;rw[if_neg he]at hde;exact hde) j hj
          unfold also
          split
          · rfl
          · exact h2
      · exfalso
        have hcond:=(hall i his).2;rw[if_neg (fun h=>hiE (List.contains_iff_mem.1 h))]at hcond;simp only[List.any_eq_true,M8,MO,Bool.or_eq_true,Bool.not_eq_true',M1]at hcond;rcases hcond with(h1|⟨j,hj,h1,h2⟩)|h1
        · rw[←hout i hiE his,hdi]at h1;cases h1
        · have h3:=hpd j h1
          have h4:=(hall j hj).1;rw[h2]at h4;have h5:E.contains j=false/\l0.getD j false=false:=by simpa using h4.symm
          rw[hout j (by simpa using h5.1) hj,h5.2]at h3;cases h3
        · obtain⟨i',hi'E,hdi'⟩:=hex
          have h3:=Oj hcl _ i hpd i' (h1 i' hi'E);rw[hdi']at h3;cases h3
theorem Till.phase2(E:List Nat)(l1:Array Bool)(m:Nat)(J:Act->(Nat->Bool)->Act->JW->Prop){l0:Array Bool}{n:Nat}{a0:Act}{w0:JW}(hn:n=E.length+m)(hc:U4 md ops l0 l1 E=true)(hS:∀d a w,J a0 d a w->S w)
    (h0:J a0 (fun j=>l0.getD j false) a0 w0) (steps:VZ P md ops Q (J a0) E)
    (fin:∀d a w,J a0 d a w->(∀i∈E,d i=true)->Till P md ops Q S k m l1 a w):Till P md ops Q S k n l0 a0 w0:=by
  rw[hn];have hs:l0.size=ops.size:=by
    unfold U4 at hc;simp only[M1,beq_iff_eq]at hc;exact hc.1.1.1
  have hd0:∀i∈E,l0.getD i false=false:=by
    unfold U4 at hc;simp only[M1,M8]at hc;intro i hi;have:=hc.1.2 i hi;simpa using this
  exact Till.phase_aux2 hc hS steps fin E.length l0 _ a0 w0 List.countP_le_length hs (fun _ _=>rfl) (fun _ _ _=>rfl) (fun _ h=>h) (fun i hi h=>by have:=hd0 i hi;rw[this]at h;cases h) h0
theorem Till.phaseP2(E:List Nat)(l1:Array Bool)(m:Nat)(J:Act->(Nat->Bool)->Act->JW->Prop){l0:Array Bool}{n:Nat}{a0:Act}{w0:JW}(hn:n=E.length+m)(hc:U4 md ops l0 l1 E=true)(hS:∀d a w,J a0 d a w->S w)
    (h0:J a0 (fun j=>l0.getD j false) a0 w0) (steps:Gu P md ops Q (J a0) E)
    (fin:∀d a w,J a0 d a w->(∀i∈E,d i=true)->Pent (Till P md ops Q S k m l1 a w)):Till P md ops Q S k n l0 a0 w0:=
  Till.phase2 E l1 m J hn hc hS h0 steps.steps fun d a w h hE=>(fin d a w h hE).out
end
section
variable {P:Program} {md:M2} {ops:Array Oper} {Q:Exit->Act->JW->Prop} {S:JW->Prop} {k:Nat}
theorem Till.sk(i m:Nat)(d:Tmp){oi:Oper}{n:Nat}{l:Array Bool}{a:Act}{w:JW}(hS:S w)(h:Till P md ops Q S k n (l.setIfInBounds i true) (a.put (some d) undef) w)(hi:ops[i]?=some oi:=by exact rfl)(hd:oi.dst=some d:=by exact rfl)(hs:Region.noSelect ops=true:=by kernel_rfl)(hf:Region.free md ops l i=true:=by kernel_rfl)(hr:(MM md ops l).contains i=true:=by kernel_rfl)(hm:Qg md ops m i=true:=by kernel_rfl)(hmk:(m ==k || Qg md ops k m)=true:=by kernel_rfl)(hik:(i ==k || i ==m)=false:=by kernel_rfl)(hkl:(l.getD k true || l.getD m true)=false:=by kernel_rfl)
  (hQ:∀c a w,Q (.panic c) (a.put (some d) undef) w->Q (.panic c) a w:=by exact fun _ _ _ h=>h) (hw:MQ oi (yielded ops a.tmps)=false:=by kernel_rfl):Till P md ops Q S k (n+1) l a w:=by
 rw[Bool.or_eq_false_iff]at hkl hik;rw[←hd]at h hQ;exact Till.first hi hs hQ hm (by simpa using hmk) (by simpa using hik.1) (by simpa using hik.2) n l a w hkl.2 (Region.free_spec hi hf) (by simpa using hr) hkl.1 (Or.inr ⟨hw,rfl⟩) hS h
end
section
variable {P:Program} {md:M2} {ops:Array Oper} {Q:Exit->Act->JW->Prop} {S:JW->Prop} {k:Nat}
theorem Till.firstL{i:Nat}{oi:Oper}{u:Value}(hi:ops[i]?=some oi)(hs:Region.noSelect ops=true)(hQ:∀c a w,Q (.panic c) (a.put oi.dst u) w->Q (.panic c) a w){L:List Nat}(hL:∀m∈L,Qg md ops m i=true\/∃m'∈L,Qg md ops m m'=true)(hkL:k∈L)(hiL:i ∉ L)(n:Nat) :
  ∀(l:Array Bool) (a:Act) (w:JW),(∀m∈L,l.getD m true=false)->(∀j oj,ops[j]?=some oj->j≠i->l.getD j true=false->(∀e∈oj.after,Region.binds md e=true->e.on≠i)->oi.apart ops oj=true) ->
   i∈MM md ops l->YieldsIf P ops S oi u a->S w->Till P md ops Q S k n (l.setIfInBounds i true) (a.put oi.dst u) w->Till P md ops Q S k (n+1) l a w:=by
 have hik:i≠k:=fun e=>hiL (e ▸ hkL)
 induction n with
 | zero=>
  intro l a w _ _ hr hy hS H;refine⟨fun h0=>absurd hr (by rw[h0];simp),fun j hj=>?_⟩;rcases Nat.decEq j i with hne|heq
  ·have:=ready_mono hj hne;rw[H.1]at this;cases this
  ·subst heq;exact hy.wpOp hi hS ⟨fun _=>hS,H⟩
 | succ n ih=>
  intro l a w hl0 hfree hr hy hS H;have hi0:=(mem_ready.1 hr).1;refine⟨fun h0=>absurd hr (by rw[h0];simp),fun j hj=>?_⟩;rcases Nat.decEq j i with hne|heq
  ·obtain⟨hj0,oj,hoj,hafter⟩:=mem_ready.1 hj;have open_:∀m':Nat,l.getD m' true=false->∀e∈oj.after,Region.binds md e=true->e.on≠m':=by
    intro m' hm0 e he hb h1;have h2:=hafter e he hb;rw[h1]at h2;cases hl:l[m']? with
    | none=>simp[M4,hl]at h2
    | some t=>simp[M4,hl]at h2 hm0;rw[h2]at hm0;cases hm0
   have hnone:=open_ i hi0;have apart:∀m':Nat,l.getD m' true=false->Qg md ops j m'=true->False:=by
    intro m' hm0 hw;unfold Qg at hw;rw[hoj]at hw;obtain⟨e,he,h2⟩:=Array.any_eq_true'.1 hw;simp only[M1,beq_iff_eq]at h2;exact open_ m' hm0 e he h2.1 h2.2
   have hjL:j ∉ L:=fun hj'=>by
    rcases hL j hj' with h1|⟨m',hm',h1⟩
    ·exact apart i hi0 h1
    ·exact apart m' (hl0 m' hm') h1
   have hjk:j≠k:=fun e=>hjL (e ▸ hkL);have hl2:∀m∈L,(l.setIfInBounds j true).getD m true=false:=fun m hm=>by
    rw[getD_set_ne true (show j≠m from fun e=>hjL (by rw[e];exact hm))];exact hl0 m hm
   have step:=wpOp_putIf hoj (hfree j oj hoj hne hj0 hnone) (fun cs b=>Region.noSelect_spec hs i oi cs b hi) (fun cs b=>Region.noSelect_spec hs j oj cs b hoj) hQ hy (H.2 j (ready_mono hj hne));refine wpOp_mono (fun b v hb=>?_) step;have hSv:S v:=hb.2.1 (by rw[getD_set_ne true hjk,getD_set_ne true hik];exact hl0 k hkL);refine⟨fun _=>hSv,ih (l.setIfInBounds j true) b v hl2 (fun m om hm hmi hml hmn=>hfree m om hm hmi ?_ hmn) (ready_mono hr (Ne.symm hne)) hb.1 hSv ?_⟩
   ·rcases Nat.decEq j m with h1|h1
    ·rwa [getD_set_ne true h1]at hml
    ·subst h1;exact hj0
   ·rw[Array.setIfInBounds_comm _ _ hne];exact hb.2.2
  ·subst heq;exact hy.wpOp hi hS ⟨fun _=>hS,H⟩
theorem DO{L:List Nat}{i:Nat}(h:(L.all fun m=>Qg md ops m i || L.any fun m'=>Qg md ops m m')=true):∀m∈L,Qg md ops m i=true\/∃m'∈L,Qg md ops m m'=true:=fun m hm=>by
 have h1:=List.all_eq_true.1 h m hm;rw[Bool.or_eq_true]at h1;exact h1.imp id fun h2=>List.any_eq_true.1 h2
theorem Till.tL(i:Nat)(L:List Nat)(d:Tmp)(u:Value){oi:Oper}{n:Nat}{l:Array Bool}{a:Act}{w:JW}(hS:S w)(h:Till P md ops Q S k n (l.setIfInBounds i true) (a.put (some d) u) w)(hi:ops[i]?=some oi:=by exact rfl)(hd:oi.dst=some d:=by exact rfl)(hs:Region.noSelect ops=true:=by kernel_rfl)(hf:Region.free md ops l i=true:=by kernel_rfl)(hr:(MM md ops l).contains i=true:=by kernel_rfl)(hL:(L.all fun m=>Qg md ops m i || L.any fun m'=>Qg md ops m m')=true:=by kernel_rfl)(hkL:L.contains k=true:=by kernel_rfl)(hiL:L.contains i=false:=by kernel_rfl)(hl0:(L.all fun m=>!l.getD m true)=true:=by kernel_rfl)
  (hQ:∀c a w,Q (.panic c) (a.put (some d) u) w->Q (.panic c) a w:=by exact fun _ _ _ h=>h) (hw:MQ oi (yielded ops a.tmps)=true:=by kernel_rfl) (hy:∀w,S w->(execOp a.eval oi).run P w= .ok (.value u) w:=by(intro w hSw;(try dsimp only at hSw);go_split_ands;go_simp)):Till P md ops Q S k (n+1) l a w:=by
 rw[←hd]at h hQ;exact Till.firstL hi hs hQ (DO hL) (by simpa using hkL) (by simpa using hiL) n l a w (fun m hm=>by simpa using List.all_eq_true.1 hl0 m hm) (Region.free_spec hi hf) (by simpa using hr) (Or.inl ⟨hw,hy⟩) hS h
end
theorem WA{z:Int}(h0:0<=z)(h:z≠1):((txt z).toList == [49])=false:=by
 rw[ByteArray.toList_eq,beq_eq_false_iff_ne];intro e;have h1:=(Vw z).2;rw[e]at h1;have h2:dval (dl [49])=1:=by decide +kernel
 omega
theorem QR{z:Int}(h:z.natAbs<ten 2900):(txt z).size<=2901:=Ya z h (by decide)
theorem Lb(z:Int)(kn:Nat)(w:JW)(hz:z.natAbs<ten 2900)(hk:kn<ten 2900)(hkp:0<kn) :
  Calls Tryz.prog 77 #[Js (txt z),Js (txt (kn:Int))] w fun e w'=>e= .returned (Js (Jh (M5 z kn)))/\Below w.heap.size w w':=by
 have HS:=Lh (fun w=>Qb (kn:Int) w (by have:=QR (z:=(kn:Int)) (by rw[M0];exact hk);omega));rw[show sgn (kn:Int)=1 by unfold sgn;rw[if_neg (by omega),if_pos (by omega)]]at HS;have sz:=QR hz;have sk:(txt (kn:Int)).size<=2901:=QR (by rw[M0];exact hk);obtain⟨hqn,hqd⟩:=Yc (n:=z) (k:=kn) hkp;obtain⟨g,hge⟩:∃g,MW (z).natAbs kn=g:=⟨_,rfl⟩;have hgp:0<g:=by rw[←hge];exact MN _ hkp
 have hgk:g<=kn:=by rw[←hge];exact MR _ hkp
 have sg:(txt (g:Int)).size<=2901:=QR (by rw[M0];exact M7 hgk hk);have HG:=Lh (fun w=>Oh z (kn:Int) w (by omega) (by omega));have HD:=Lh (fun w=>Ym z (g:Int) w (by omega) (by omega) (by omega));have HE:=Lh (fun w=>Ym (kn:Int) (g:Int) w (by omega) (by omega) (by omega));rw[M0,hge]at HG;rw[hge]at hqn hqd;obtain⟨q,hqq⟩:∃q,M5 z kn=q:=⟨_,rfl⟩;rw[hqq]at hqn hqd;rw[hqq];have Hqn:=Lh hqn;have Hqd:=Lh (show((q.den:Nat):Int)=(kn:Int)/(g:Int)by rw[hqd];exact MS _ _);have Hgp:=Lh (show(0:Int)<(g:Int)by omega);have sn:(txt q.num).size<=2901:=QR (by
  have h1:=M9 (z) (g:Int);rw[←hqn]at h1;omega)
 have sd:(txt (q.den:Int)).size<=2901:=QR (by
  rw [M0,hqd]; exact M7 (MU _ _) hk)
 have hn1:q.den≠1->((txt (q.den:Int)).toList == [49])=false:=fun h=>WA (by omega) (by omega);obtain⟨T,hT⟩:∃T,txt q.num=T:=⟨_,rfl⟩;obtain⟨U,hU⟩:∃U,txt (q.den:Int)=U:=⟨_,rfl⟩;rw[hT]at sn;rw[hU]at sd hn1;have HT:=Lh hT;have HU:=Lh hU;have Hways:=Lh (show (q.den=1/\Jh q=T/\U=⟨#[49]⟩)\/(q.den≠1/\Jh q=T ++ ⟨#[47]⟩ ++ U/\(U.toList == [49])=false) by
  by_cases h:q.den=1
  ·exact .inl ⟨h,by unfold Jh;rw[if_pos h,hT],by rw[←hU,h];exact Gx⟩
  ·exact .inr ⟨h,by unfold Jh; rw [if_neg h,hT,hU],hn1 h⟩)
 obtain⟨X,hX⟩:∃X,Jh q=X:=⟨_,rfl⟩;rw[hX]at Hways ⊢;obtain⟨Z,hZ⟩:∃Z,txt z=Z:=⟨_,rfl⟩;obtain⟨Y,hY⟩:∃Y,txt (kn:Int)=Y:=⟨_,rfl⟩;obtain⟨G,hG⟩:∃G,txt (g:Int)=G:=⟨_,rfl⟩;rw[hZ,hY,hG]at HG;rw[hZ,hG]at HD;rw[hY,hG]at HE;rw[hY]at HS;rw[hZ,hY];clear sz sk hqn hqd hge hgp hgk sg hn1 hT hU hZ hY hG hz hk hkp hqq hX;go_enter Tryz.func77,Tryz.ntmps77;go_wp2_with fail
 refine(HS.out _).mono ?_;rintro e w1⟨rfl,rfl⟩;have K2:=Lh (Below.refl w.heap.size w);go_wp2_with fail
 refine(HG.out _).mono ?_;rintro e w3⟨rfl,h3⟩;have K3:=Lh (Jd K2.out h3);clear h3;go_wp2_with fail
 refine(HD.out _).mono ?_;rintro e w4⟨⟨q1,r1,rfl,hdm⟩,h4⟩;have e1:=VR Hgp.out hdm;rw[←Hqn.out]at e1;subst e1;have K4:=Lh (Jd K3.out h4);clear h4 hdm;rw[HT.out];go_wp2_with fail
 refine(HE.out _).mono ?_;rintro e w5⟨⟨q2,r2,rfl,hdm⟩,h5⟩;have e2:=VR Hgp.out hdm;rw[←Hqd.out]at e2;subst e2;have K5:=Lh (Jd K4.out h5);clear h5 hdm;rw[HU.out];rcases Hways.out with⟨hd,hfin,rfl⟩|⟨hd,hfin,hn1⟩
 ·have Hfin:=Lh hfin;clear hd hfin;go_wp2;go_ret;exact⟨by rw[Hfin.out];rfl,K5.out⟩
 ·have Hfin:=Lh hfin;have cat1:∀W:JW,(Op.stringOp .add T ⟨#[47]⟩).run Tryz.prog W= .ok (Js (T ++ ⟨#[47]⟩)) W:=fun W=>run_string_add_sum W _ _ (by show T.size+1<=_;omega);have cat2:∀W:JW,(Op.stringOp .add (T ++ ⟨#[47]⟩) U).run Tryz.prog W= .ok (Js (T ++ ⟨#[47]⟩ ++ U)) W:=fun W=>run_string_add_sum W _ _ (by rw[M3];show T.size+1+U.size<=_;omega);clear hd hfin;go_wp2;go_ret;exact⟨by rw[Hfin.out];rfl,K5.out⟩
theorem Lc(z:Int)(kn:Nat)(w:JW)(hz:(-z).natAbs<ten 2900)(hk:kn<ten 2900)(hkp:0<kn) :
  Calls Tryz.prog 77 #[Js (txt z),Js (txt (-(kn:Int)))] w fun e w'=>e= .returned (Js (Jh (M5 (-z) kn)))/\Below w.heap.size w w':=by
 have sz0:(txt z).size<=2901:=QR (by rw[MP]at hz;exact hz);have sk0:(txt (-(kn:Int))).size<=2901:=QR (by rw[MP,M0];exact hk);have HS:=Lh (fun w=>Qb (-(kn:Int)) w (by omega));rw[show sgn (-(kn:Int))=-1 by unfold sgn;rw[if_pos (by omega)]]at HS;have HN:=Lh (fun w=>Xh z w (by omega));have HM:=Lh (fun w=>Xh (-(kn:Int)) w (by omega));rw[Int.neg_neg]at HM;have sz:=QR hz;have sk:(txt (kn:Int)).size<=2901:=QR (by rw[M0];exact hk);obtain⟨hqn,hqd⟩:=Yc (n:=(-z)) (k:=kn) hkp;obtain⟨g,hge⟩:∃g,MW ((-z)).natAbs kn=g:=⟨_,rfl⟩;have hgp:0<g:=by rw[←hge];exact MN _ hkp
 have hgk:g<=kn:=by rw[←hge];exact MR _ hkp
 have sg:(txt (g:Int)).size<=2901:=QR (by rw[M0];exact M7 hgk hk);have HG:=Lh (fun w=>Oh (-z) (kn:Int) w (by omega) (by omega));have HD:=Lh (fun w=>Ym (-z) (g:Int) w (by omega) (by omega) (by omega));have HE:=Lh (fun w=>Ym (kn:Int) (g:Int) w (by omega) (by omega) (by omega));rw[M0,hge]at HG;rw[hge]at hqn hqd;obtain⟨q,hqq⟩:∃q,M5 (-z) kn=q:=⟨_,rfl⟩;rw[hqq]at hqn hqd;rw[hqq];have Hqn:=Lh hqn;have Hqd:=Lh (show((q.den:Nat):Int)=(kn:Int)/(g:Int)by rw[hqd];exact MS _ _);have Hgp:=Lh (show(0:Int)<(g:Int)by omega);have sn:(txt q.num).size<=2901:=QR (by
  have h1:=M9 ((-z)) (g:Int);rw[←hqn]at h1;omega)
 have sd:(txt (q.den:Int)).size<=2901:=QR (by
  rw [M0,hqd]; exact M7 (MU _ _) hk)
 have hn1:q.den≠1->((txt (q.den:Int)).toList == [49])=false:=fun h=>WA (by omega) (by omega);obtain⟨T,hT⟩:∃T,txt q.num=T:=⟨_,rfl⟩;obtain⟨U,hU⟩:∃U,txt (q.den:Int)=U:=⟨_,rfl⟩;rw[hT]at sn;rw[hU]at sd hn1;have HT:=Lh hT;have HU:=Lh hU;have Hways:=Lh (show (q.den=1/\Jh q=T/\U=⟨#[49]⟩)\/(q.den≠1/\Jh q=T ++ ⟨#[47]⟩ ++ U/\(U.toList == [49])=false) by
  by_cases h:q.den=1
  ·exact .inl ⟨h,by unfold Jh;rw[if_pos h,hT],by rw[←hU,h];exact Gx⟩
  ·exact .inr ⟨h,by unfold Jh; rw [if_neg h,hT,hU],hn1 h⟩)
 obtain⟨X,hX⟩:∃X,Jh q=X:=⟨_,rfl⟩;rw[hX]at Hways ⊢;obtain⟨Z,hZ⟩:∃Z,txt (-z)=Z:=⟨_,rfl⟩;obtain⟨Y,hY⟩:∃Y,txt (kn:Int)=Y:=⟨_,rfl⟩;obtain⟨G,hG⟩:∃G,txt (g:Int)=G:=⟨_,rfl⟩;obtain⟨Z0,hZ0⟩:∃Z,txt z=Z:=⟨_,rfl⟩;obtain⟨Y0,hY0⟩:∃Y,txt (-(kn:Int))=Y:=⟨_,rfl⟩;rw[hZ,hY,hG]at HG;rw[hZ,hG]at HD;rw[hY,hG]at HE;rw[hY0]at HS;rw[hZ0,hZ]at HN;rw[hY0,hY]at HM;rw[hZ0,hY0];clear sz sk hqn hqd hge hgp hgk sg hn1 hT hU hZ hY hG hz hk hkp hqq hX hZ0 hY0 sz0 sk0;go_enter Tryz.func77,Tryz.ntmps77;go_wp2_with fail
 refine(HS.out _).mono ?_;rintro e w1⟨rfl,rfl⟩;go_wp2_with fail
 refine(HN.out _).mono ?_;rintro e w1⟨rfl,h1⟩;have K1:=Lh h1;clear h1;go_wp2_with fail
 refine(HM.out _).mono ?_;rintro e w2⟨rfl,h2⟩;have K2:=Lh (Jd K1.out h2);clear h2;go_wp2_with fail
 refine(HG.out _).mono ?_;rintro e w3⟨rfl,h3⟩;have K3:=Lh (Jd K2.out h3);clear h3;go_wp2_with fail
 refine(HD.out _).mono ?_;rintro e w4⟨⟨q1,r1,rfl,hdm⟩,h4⟩;have e1:=VR Hgp.out hdm;rw[←Hqn.out]at e1;subst e1;have K4:=Lh (Jd K3.out h4);clear h4 hdm;rw[HT.out];go_wp2_with fail
 refine(HE.out _).mono ?_;rintro e w5⟨⟨q2,r2,rfl,hdm⟩,h5⟩;have e2:=VR Hgp.out hdm;rw[←Hqd.out]at e2;subst e2;have K5:=Lh (Jd K4.out h5);clear h5 hdm;rw[HU.out];rcases Hways.out with⟨hd,hfin,rfl⟩|⟨hd,hfin,hn1⟩
 ·have Hfin:=Lh hfin;clear hd hfin;go_wp2;go_ret;exact⟨by rw[Hfin.out];rfl,K5.out⟩
 ·have Hfin:=Lh hfin;have cat1:∀W:JW,(Op.stringOp .add T ⟨#[47]⟩).run Tryz.prog W= .ok (Js (T ++ ⟨#[47]⟩)) W:=fun W=>run_string_add_sum W _ _ (by show T.size+1<=_;omega);have cat2:∀W:JW,(Op.stringOp .add (T ++ ⟨#[47]⟩) U).run Tryz.prog W= .ok (Js (T ++ ⟨#[47]⟩ ++ U)) W:=fun W=>run_string_add_sum W _ _ (by rw[M3];show T.size+1+U.size<=_;omega);clear hd hfin;go_wp2;go_ret;exact⟨by rw[Hfin.out];rfl,K5.out⟩
theorem Xg(z k:Int)(w:JW)(hz:z.natAbs<ten 2900)(hk:k.natAbs<ten 2900)(hk0:k≠0) :
  Calls Tryz.prog 77 #[Js (txt z),Js (txt k)] w fun e w'=>e= .returned (Js (Jh (M5 z k)))/\Below w.heap.size w w':=by
 rcases Int.lt_or_gt_of_ne hk0 with hn|hp
 ·have e:k=-((k.natAbs:Nat):Int):=by omega
  have e2:M5 z k=M5 (-z) (k.natAbs:Nat):=by rw[←ZX];congr 1;omega
  have h:=Lc z k.natAbs w (by rw[MP];exact hz) hk (by omega);rw[←e]at h;rw[e2];exact h
 ·have e:k=((k.natAbs:Nat):Int):=by omega
  have h:=Lb z k.natAbs w hz hk (by omega);rw[←e]at h;exact h
def Yr(l:List UInt8):Bool:=l.all (· ==48)
def Qn(s:ByteArray):Nat:=s.data.toList.findIdx (· ==47)
theorem Et(s:ByteArray):Qn s<=s.size:=by
 have:=List.findIdx_le_length (xs:=s.data.toList) (p:=(· ==47))
 rwa [JX]at this
theorem WM{s:ByteArray}(h:Qn s<s.size):s=s.extract 0 (Qn s) ++ ⟨#[47]⟩ ++ s.extract (Qn s+1) s.size:=by
 have hlt:Qn s<s.data.toList.length:=by rw[JX];exact h
 have h47:=List.findIdx_getElem (xs:=s.data.toList) (p:=(· ==47)) (w:=hlt);have h47:s.data.toList[Qn s]=47:=eq_of_beq h47;apply MY;apply Array.toList_inj.1;have e:(s.extract 0 (Qn s) ++ ⟨#[47]⟩ ++ s.extract (Qn s+1) s.size).data.toList=(s.extract 0 (Qn s)).data.toList ++ [47] ++ (s.extract (Qn s+1) s.size).data.toList:=by simp[MX]
 rw[e,Uj];have e2:(s.extract 0 (Qn s)).data.toList=s.data.toList.take (Qn s):=by simp[MV]
 rw[e2,List.append_assoc,List.singleton_append,←h47,←List.drop_eq_getElem_cons hlt,List.take_append_drop]
def Tx(s:ByteArray)(z:Int):Prop:=Qw s=0/\zOf s=z
theorem Tx.txt{s:ByteArray}{z:Int}(h:Tx s z):txt z=s:=by rw[←h.2];exact GN h.1
def IsR(s:ByteArray):Prop:=∃q:Rat,Jh q=s/\Tx (txt q.num) q.num/\(q.den≠1->Tx (txt (q.den:Int)) (q.den:Int))/\(txt q.num).size<=s.size/\(q.den≠1->(txt (q.den:Int)).size<=s.size)
theorem VD(T U:ByteArray):(T ++ ⟨#[47]⟩ ++ U).size=T.size+1+U.size:=by rw[M3,M3];rfl
theorem NT{s:ByteArray}(h:Qw s=0):IsR s:=by
 have e:=GN h;have hn:((zOf s:Int):Rat).num=zOf s:=Rat.num_intCast _;have hd:((zOf s:Int):Rat).den=1:=Rat.den_intCast _;refine⟨((zOf s:Int):Rat),by unfold Jh;rw[if_pos hd,hn,e],by rw[hn,e];exact⟨h,rfl⟩,fun h1=>absurd hd h1,by rw[hn,e];exact Nat.le_refl _,fun h1=>absurd hd h1⟩
theorem LT{T U:ByteArray}{z d:Int}(hT:Tx T z)(hU:Tx U d)(hd:1<d)(hg:MW z.natAbs d.natAbs=1):IsR (T ++ ⟨#[47]⟩ ++ U):=by
 have e1:=hT.txt;have e2:=hU.txt;have hk:d=((d.natAbs:Nat):Int):=by omega
 obtain⟨h1,h2⟩:=Yc (n:=z) (k:=d.natAbs) (by omega);rw[hg]at h1 h2;rw[Int.natCast_one,Int.ediv_one]at h1;rw[Nat.div_one]at h2;refine⟨M5 z (d.natAbs:Nat),?_,by rw[h1,e1];exact hT,fun _=>by rw[h2,←hk,e2];exact hU,by rw[h1,e1,VD];omega,fun _=>by rw[h2,←hk,e2,VD];omega⟩;unfold Jh;rw[if_neg (by omega),h1,h2,←hk,e1,e2]
theorem Wk{den:ByteArray}(hd:JJ den.data.toList=true):YB den=false:=by
 unfold YB;cases hl:den.data.toList with
 | nil=>rfl
 | cons c l=>
  rw[hl]at hd;unfold JJ at hd;rw[List.all_cons,M1]at hd;have h1:=hd.1;rw[List.head?_cons];have:c≠45:=by intro e;rw[e]at h1;revert h1;decide
  simpa using this
theorem KM{den:ByteArray}(hd:JJ den.data.toList=true)(h0:0<den.size)(h1:Yi den=false):Qw den=0/\0<zOf den:=by
 have hn:=Wk hd;have hb:JH den=den:=by unfold JH;rw[hn];rfl
 have he:=(QP hb).2.2.2 hd h0 (fun⟨hl,_⟩=>by rw[h1]at hl;cases hl);refine⟨he,?_⟩;have hnn:0<=zOf den:=by unfold zOf Jq;rw[hn];simp
 rcases Int.lt_or_eq_of_le hnn with h|h
 ·exact h
 ·exfalso;have e:=GN he;rw[←h,Qp]at e;rw[←e]at h1
  revert h1
  decide
theorem UA{l:List UInt8}{n:Nat}(h:(JJ l && decide (0<n))=true):JJ l=true/\0<n:=by
 rw[M1]at h;exact⟨h.1,of_decide_eq_true h.2⟩
