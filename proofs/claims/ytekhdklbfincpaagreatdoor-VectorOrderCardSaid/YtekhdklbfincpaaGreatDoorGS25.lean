/- GS25: Reg Ph2 RatK -/
import Derived.Test.YtekhdklbfincpaaGreatDoorGS16
import Derived.Test.YtekhdklbfincpaaGreatDoorGS24
import Derived.Test.YtekhdklbfincpaaGreatDoorGS23
set_option maxRecDepth 100000
set_option maxHeartbeats 16000000
namespace Go.Proofs.YtekhdklbfincpaaGreatDoor
open Go.Value renaming string→Js
open Go renaming World→JW
open _root_.Int renaming natAbs_natCast→M0,natAbs_ediv_le_natAbs→M8,natAbs_neg→Mj,natCast_ediv→Ml
open _root_.Bool renaming and_eq_true→M1
open _root_.ByteArray renaming size_append→M2,data_extract→Mo,data_append→Mq,ext→Mr
open _root_.Rat renaming divInt→M3
open _root_.Array renaming size_setIfInBounds→M4
open _root_.Nat renaming lt_of_le_of_lt→M5,gcd_pos_of_pos_right→M9,gcd_le_right→Mk,div_le_self→Mn,gcd→Mp
open Go.Region renaming Mode→M6
open _root_.List renaming all_eq_true→M7,mem_range→Mi,range→Mm
open Go.RowKit
structure Pent (p:Prop):Prop where
 out:p
section
variable {P:Program} {md:M6} {ops:Array Oper} {Q:Exit->Act->JW->Prop} {S:JW->Prop} {k:Nat}
def StepP(P:Program)(md:M6)(ops:Array Oper)(Q:Exit->Act->JW->Prop)(I:(Nat->Bool)->Act->JW->Prop)(i:Nat)(o:Oper):Prop:=
 ∀(d:Nat->Bool) (a:Act) (w:JW),I d a w->d i=false->(∀j,waits md ops i j=true->d j=true)->∀K:Act->JW->Prop,Shut (∀b v,I (also d i) b v->K b v)->Pent (if Region.wanted o (yielded ops a.tmps)=true then Oper.wp P o a w K Q else K (a.put o.dst undef) w)
def StepsP(P:Program)(md:M6)(ops:Array Oper)(Q:Exit->Act->JW->Prop)(I:(Nat->Bool)->Act->JW->Prop):List Nat->Prop
 | []=>True
 | i :: r=>(∃o,ops[i]?=some o/\StepP P md ops Q I i o)/\StepsP P md ops Q I r
theorem StepsP.steps{I:(Nat->Bool)->Act->JW->Prop}:∀ {E:List Nat},StepsP P md ops Q I E->Steps P md ops Q I E
 | [],_=>trivial
 | _ :: _,⟨⟨o,ho,h⟩,hr⟩=>⟨⟨o,ho,fun d a w hI hi ha K hK=>(h d a w hI hi ha K hK).out⟩,StepsP.steps hr⟩
theorem Till.phaseP(E:List Nat)(l1:Array Bool)(m:Nat)(J:Act->(Nat->Bool)->Act->JW->Prop){l0:Array Bool}{n:Nat}{a0:Act}{w0:JW}(hn:n=E.length+m)(hc:phaseOk md ops l0 l1 E=true)(hS:∀d a w,J a0 d a w->S w)
  (h0:J a0 (fun j=>l0.getD j false) a0 w0) (steps:StepsP P md ops Q (J a0) E)
  (fin:∀d a w,J a0 d a w->(∀i∈E,d i=true)->Pent (Till P md ops Q S k m l1 a w)):Till P md ops Q S k n l0 a0 w0:=
 Till.phase E l1 m J hn hc hS h0 steps.steps fun d a w h hE=>(fin d a w h hE).out
end
def MadeAt(w:JW)(t:Value)(q:Rat):Prop:=∃(a:Int) (P:Option Addr) (b:Int) (Q:Option Addr),t= .tuple #[.agg #[.int .i64 a,.pointer P,.int .i64 b,.pointer Q],.int .i64 0]/\RatV w a P b Q q
theorem MadeAt.keep{w w':JW}{t:Value}{q:Rat}(h:MadeAt w t q)(hb:Below w.heap.size w w'):MadeAt w' t q:=by
 obtain⟨a,P,b,Q,e,hx⟩:=h;exact⟨a,P,b,Q,e,hx.keep hb⟩
theorem varR_put{w:JW}{p:Nat}{a:Int}{P:Option Addr}{b:Int}{Q:Option Addr}{q:Rat}{x0 x1 x2 x3:Value}(h:Cells w p [x0,x1,x2,x3])(hp:[x0,x1,x2,x3].all plainV=true)(hi:RatV w a P b Q q):VarR (put4 w p (.int .i64 a) (.pointer P) (.int .i64 b) (.pointer Q)) p a P b Q q:=
 ⟨h.put4 _ _ _ _,hi.wrote h hp (put4_heap w p _ _ _ _).1 (put4_heap w p _ _ _ _).2⟩
theorem MadeAt.wrote{w:JW}{t:Value}{q:Rat}{p:Nat}{x0 x1 x2 x3:Value}(h:MadeAt w t q)(hc:Cells w p [x0,x1,x2,x3])(hp:[x0,x1,x2,x3].all plainV=true){y0 y1 y2 y3:Value}:MadeAt (put4 w p y0 y1 y2 y3) t q:=by
 obtain⟨a,P,b,Q,e,hx⟩:=h;exact⟨a,P,b,Q,e,hx.wrote hc hp (put4_heap w p _ _ _ _).1 (put4_heap w p _ _ _ _).2⟩
theorem RatAt.wrote{w:JW}{t:Value}{q:Rat}{p:Nat}{x0 x1 x2 x3:Value}(h:RatAt w t q)(hc:Cells w p [x0,x1,x2,x3])(hp:[x0,x1,x2,x3].all plainV=true){y0 y1 y2 y3:Value}:RatAt (put4 w p y0 y1 y2 y3) t q:=by
 obtain⟨a,P,b,Q,e,hx⟩:=h;exact⟨a,P,b,Q,e,hx.wrote hc hp (put4_heap w p _ _ _ _).1 (put4_heap w p _ _ _ _).2⟩
theorem IntAt.wrote{w:JW}{t:Value}{z:Int}{p:Nat}{x0 x1 x2 x3:Value}(h:IntAt w t z)(hc:Cells w p [x0,x1,x2,x3])(hp:[x0,x1,x2,x3].all plainV=true){y0 y1 y2 y3:Value}:IntAt (put4 w p y0 y1 y2 y3) t z:=by
 obtain⟨a,P,e,hx⟩:=h;exact⟨a,P,e,hx.wrote hc hp (put4_heap w p _ _ _ _).1 (put4_heap w p _ _ _ _).2⟩
def VarRAt(b:Nat)(w:JW)(t:Value)(q:Rat):Prop:=∃(p:Nat) (x:Int) (X:Option Addr) (y:Int) (Y:Option Addr),t= .pointer (some ⟨p,0,none⟩)/\b<=p/\VarR w p x X y Y q
theorem VarRAt.keep{b:Nat}{w w':JW}{t:Value}{q:Rat}(h:VarRAt b w t q)(hb:Below w.heap.size w w'):VarRAt b w' t q:=by
 obtain⟨p,x,X,y,Y,e,hp,hv⟩:=h;exact⟨p,x,X,y,Y,e,hp,hv.keep hb⟩
section
variable {P:Program} {md:M6} {ops:Array Oper} {Q:Exit->Act->JW->Prop} {S:JW->Prop} {k:Nat}
def reach(md:M6)(ops:Array Oper)(E:List Nat):Nat->Nat->Nat->Bool
  | 0,j,i=>waits md ops j i
  | n+1,j,i=>waits md ops j i || E.any fun e=>waits md ops j e && reach md ops E n e i
theorem reach_done{E:List Nat}{d:Nat->Bool}(hcl:∀i∈E,d i=true->∀j,waits md ops i j=true->d j=true):∀(n j:Nat),(∀i,waits md ops j i=true->d i=true)->∀i,reach md ops E n j i=true->d i=true
  | 0,_,hj,i,h=>hj i h
  | n+1,j,hj,i,h=>by
    unfold reach at h;rcases Bool.or_eq_true_iff.1 h with h|h
    · exact hj i h
    · obtain⟨e,heE,he⟩:=List.any_eq_true.1 h
      obtain⟨h1,h2⟩:=Bool.and_eq_true_iff.1 he;exact reach_done hcl n e (hcl e heE (hj e h1)) i h2
def phaseOk2(md:M6)(ops:Array Oper)(l0 l1:Array Bool)(E:List Nat):Bool:=
  ((l0.size ==ops.size) && (l1.size ==ops.size) && E.all fun i=>!l0.getD i false) &&
  (Mm ops.size).all fun j=>
    (l1.getD j false ==(E.contains j || l0.getD j false)) &&
    (if E.contains j then ((Mm ops.size).all fun i=>!waits md ops j i || l0.getD i false || (E.contains i && decide (i<j))) && within ops j
     else l0.getD j false || ((Mm ops.size).any fun i=>waits md ops j i && !l1.getD i false) || E.all fun i=>reach md ops E 5 j i)
theorem Till.phase_aux2{I:(Nat->Bool)->Act->JW->Prop}{E:List Nat}{l0 l1:Array Bool}{m:Nat}(hc:phaseOk2 md ops l0 l1 E=true)(hS:∀d a w,I d a w->S w)(steps:Steps P md ops Q I E)
    (fin:∀d a w,I d a w->(∀i∈E,d i=true)->Till P md ops Q S k m l1 a w) :
    ∀(n:Nat) (l:Array Bool) (d:Nat->Bool) (a:Act) (w:JW),E.countP (fun j=>!d j)<=n->l.size=ops.size->(∀j<ops.size,l.getD j false=d j)->(∀j,j ∉ E->j<ops.size->d j=l0.getD j false)->(∀j,l0.getD j false=true->d j=true)->(∀i∈E,d i=true->∀j,waits md ops i j=true->d j=true)->I d a w->Till P md ops Q S k (n+m) l a w:=by
  unfold phaseOk2 at hc;simp only[M1,beq_iff_eq,M7,Mi]at hc;obtain⟨⟨⟨hs0,hs1⟩,_⟩,hall⟩:=hc;have done:∀(l:Array Bool) (d:Nat->Bool) (a:Act) (w:JW),l.size=ops.size->(∀j<ops.size,l.getD j false=d j)->(∀j,j ∉ E->j<ops.size->d j=l0.getD j false)->I d a w->(∀i∈E,d i=true)->Till P md ops Q S k m l a w:=by
    intro l d a w hl hd hout hI hE;have e:l=l1:=by
      apply Array.ext (hl.trans hs1.symm);intro j h1 h2;have hj:j<ops.size:=by omega
      have e1:=(hall j hj).1;rw[getD_flag h2]at e1;have e2:=hd j hj;rw[getD_flag h1]at e2;rw[e1,e2];by_cases hjE:j∈E
      · rw[hE j hjE,List.contains_iff_mem.2 hjE];rfl
      · rw[hout j hjE hj,show E.contains j=false from by simpa using hjE];rfl
    rw[e];exact fin d a w hI hE
  intro n
  induction n with
  | zero=>
    intro l d a w hn hl hd hout _ _ hI;rw[Nat.zero_add];refine done l d a w hl hd hout hI fun i hi=>?_;have h0:E.countP (fun j=>!d j)=0:=by omega
    have:=List.countP_eq_zero.1 h0 i hi;simpa using this
  | succ n ih=>
    intro l d a w hn hl hd hout hl0 hcl hI;by_cases hE:∀i∈E,d i=true
    · exact Till.raise (done l d a w hl hd hout hI hE) (n+1)
    have hex:∃i,i∈E/\d i=false:=by
      apply Classical.byContradiction;intro hno;refine hE fun i hi=>?_;cases hdi:d i with
      | true=>rfl
      | false=>exact absurd ⟨i,hi,hdi⟩ hno
    rw[Nat.succ_add];refine⟨fun h0=>?_,fun i hi=>?_⟩
    · -- the least one that has not come up is ready
      exfalso;have least:∀b:Nat,∀i,i<b->i∈E->d i=false->False:=by
        intro b
        induction b with
        | zero=>intro i hi;omega
        | succ b ihb=>
          intro i hib hiE hdi;obtain⟨o,ho,_⟩:=steps.at_ i hiE;have his:i<ops.size:=(Array.getElem?_eq_some_iff.1 ho).1;have hcond:=(hall i his).2;rw[if_pos (List.contains_iff_mem.2 hiE)]at hcond;simp only[M7,Mi,Bool.or_eq_true,Bool.not_eq_true',M1,decide_eq_true_eq]at hcond;obtain⟨hcond,hwi⟩:=hcond;have hr:i∈Region.ready md ops l:=by
            refine mem_ready.2 ⟨by rw[getD_flag (by omega)];rw[←getD_flag (by omega) false,hd i his,hdi],o,ho,fun e he hb=>?_⟩;have hw:=waits_on ho he hb;by_cases hes:e.on<ops.size
            · rw[hd _ hes]
              rcases hcond e.on hes with(h1|h1)|h1
              · rw[hw]at h1;cases h1
              · exact hl0 _ h1
              · cases hde:d e.on with
                | true=>rfl
                | false=>exact(ihb e.on (by omega) (List.contains_iff_mem.1 h1.1) hde).elim
            · exfalso
              unfold within at hwi;rw[ho]at hwi;have:=Array.all_eq_true_iff_forall_mem.1 hwi e he;exact hes (by simpa using this)
          rw[h0]at hr;cases hr
      obtain⟨i,hiE,hdi⟩:=hex;exact least (i+1) i (by omega) hiE hdi
    · obtain⟨hi0,o,ho,hafter⟩:=mem_ready.1 hi
      have his:i<ops.size:=(Array.getElem?_eq_some_iff.1 ho).1;have hdi:d i=false:=by rw[←hd i his,getD_flag (by omega)];rw[getD_flag (by omega)]at hi0;exact hi0
      have hpre:∀j,waits md ops i j=true->l.getD j false=true:=waits_of ho hafter;have hsz:∀j,l.getD j false=true->j<ops.size:=fun j hj=>by
        rcases Nat.lt_or_ge j l.size with h|h
        · omega
        · simp[Array.getD_eq_getD_getElem?,Array.getElem?_eq_none h]at hj
      have hpd:∀j,waits md ops i j=true->d j=true:=fun j hj=>by
        have h1:=hpre j hj;rw[←hd j (hsz j h1)];exact h1
      by_cases hiE:i∈E
      · obtain⟨o',ho',hstep⟩:=steps.at_ i hiE
        have key:wpOp P ops Q i (I (also d i)) a w:=wpOp_step ho' fun K hK=>hstep d a w hI hdi hpd K hK;refine wpOp_mono (fun b v hb=>⟨fun _=>hS _ _ _ hb,?_⟩) key;refine ih (l.setIfInBounds i true) (also d i) b v (by have:=countP_step hiE hdi;omega) (by rw[M4];exact hl) (fun j hj=>?_) (fun j hjE hj=>?_) (fun j hj0=>?_) (fun e heE hde j hj=>?_) hb
        · unfold also
          split
          · rename_i h;subst h;rw[getD_flag (by rw[M4];omega)];simp
          · rename_i h
            rw[getD_flag (by rw[M4];omega),Array.getElem_setIfInBounds_ne (by omega) (Ne.symm h),←hd j hj,getD_flag (by omega)]
        · unfold also
          rw[if_neg (fun h=>hjE (by rw[h];exact hiE))];exact hout j hjE hj
        · unfold also
          split
          · rfl
          · exact hl0 j hj0
        · have h2:d j=true:=by
            by_cases he:e=i
            · subst he;exact hpd j hj
            · exact hcl e heE (by unfold also at hde;rw[if_neg he]at hde;exact hde) j hj
          unfold also
          split
          · rfl
          · exact h2
      · exfalso
        have hcond:=(hall i his).2;rw[if_neg (fun h=>hiE (List.contains_iff_mem.1 h))]at hcond;simp only[List.any_eq_true,M7,Mi,Bool.or_eq_true,Bool.not_eq_true',M1]at hcond;rcases hcond with(h1|⟨j,hj,h1,h2⟩)|h1
        · rw[←hout i hiE his,hdi]at h1;cases h1
        · have h3:=hpd j h1
          have h4:=(hall j hj).1;rw[h2]at h4;have h5:E.contains j=false/\l0.getD j false=false:=by simpa using h4.symm
          rw[hout j (by simpa using h5.1) hj,h5.2]at h3;cases h3
        · obtain⟨i',hi'E,hdi'⟩:=hex
          have h3:=reach_done hcl _ i hpd i' (h1 i' hi'E);rw[hdi']at h3;cases h3
theorem Till.phase2(E:List Nat)(l1:Array Bool)(m:Nat)(J:Act->(Nat->Bool)->Act->JW->Prop){l0:Array Bool}{n:Nat}{a0:Act}{w0:JW}(hn:n=E.length+m)(hc:phaseOk2 md ops l0 l1 E=true)(hS:∀d a w,J a0 d a w->S w)
    (h0:J a0 (fun j=>l0.getD j false) a0 w0) (steps:Steps P md ops Q (J a0) E)
    (fin:∀d a w,J a0 d a w->(∀i∈E,d i=true)->Till P md ops Q S k m l1 a w):Till P md ops Q S k n l0 a0 w0:=by
  rw[hn];have hs:l0.size=ops.size:=by
    unfold phaseOk2 at hc;simp only[M1,beq_iff_eq]at hc;exact hc.1.1.1
  have hd0:∀i∈E,l0.getD i false=false:=by
    unfold phaseOk2 at hc;simp only[M1,M7]at hc;intro i hi;have:=hc.1.2 i hi;simpa using this
  exact Till.phase_aux2 hc hS steps fin E.length l0 _ a0 w0 List.countP_le_length hs (fun _ _=>rfl) (fun _ _ _=>rfl) (fun _ h=>h) (fun i hi h=>by have:=hd0 i hi;rw[this]at h;cases h) h0
theorem Till.phaseP2(E:List Nat)(l1:Array Bool)(m:Nat)(J:Act->(Nat->Bool)->Act->JW->Prop){l0:Array Bool}{n:Nat}{a0:Act}{w0:JW}(hn:n=E.length+m)(hc:phaseOk2 md ops l0 l1 E=true)(hS:∀d a w,J a0 d a w->S w)
    (h0:J a0 (fun j=>l0.getD j false) a0 w0) (steps:StepsP P md ops Q (J a0) E)
    (fin:∀d a w,J a0 d a w->(∀i∈E,d i=true)->Pent (Till P md ops Q S k m l1 a w)):Till P md ops Q S k n l0 a0 w0:=
  Till.phase2 E l1 m J hn hc hS h0 steps.steps fun d a w h hE=>(fin d a w h hE).out
end
theorem txt_not1{z:Int}(h0:0<=z)(h:z≠1):((txt z).toList == [49])=false:=by
 rw[ByteArray.toList_eq,beq_eq_false_iff_ne];intro e;have h1:=(dl_txt z).2;rw[e]at h1;have h2:dval (dl [49])=1:=by decide +kernel
 omega
theorem ten_size{z:Int}(h:z.natAbs<ten 2900):(txt z).size<=2901:=txt_size z h (by decide)
theorem text_pos(z:Int)(kn:Nat)(w:JW)(hz:z.natAbs<ten 2900)(hk:kn<ten 2900)(hkp:0<kn) :
  Calls Tryz.prog 77 #[Js (txt z),Js (txt (kn:Int))] w fun e w'=>e= .returned (Js (ratTxt (M3 z kn)))/\Below w.heap.size w w':=by
 have HS:=Lh (fun w=>refSign_any (kn:Int) w (by have:=ten_size (z:=(kn:Int)) (by rw[M0];exact hk);omega));rw[show sgn (kn:Int)=1 by unfold sgn;rw[if_neg (by omega),if_pos (by omega)]]at HS;have sz:=ten_size hz;have sk:(txt (kn:Int)).size<=2901:=ten_size (by rw[M0];exact hk);obtain⟨hqn,hqd⟩:=rat_make (n:=z) (k:=kn) hkp;obtain⟨g,hge⟩:∃g,Mp (z).natAbs kn=g:=⟨_,rfl⟩;have hgp:0<g:=by rw[←hge];exact M9 _ hkp
 have hgk:g<=kn:=by rw[←hge];exact Mk _ hkp
 have sg:(txt (g:Int)).size<=2901:=ten_size (by rw[M0];exact M5 hgk hk);have HG:=Lh (fun w=>refGcd_any z (kn:Int) w (by omega) (by omega));have HD:=Lh (fun w=>refDivMod_any z (g:Int) w (by omega) (by omega) (by omega));have HE:=Lh (fun w=>refDivMod_any (kn:Int) (g:Int) w (by omega) (by omega) (by omega));rw[M0,hge]at HG;rw[hge]at hqn hqd;obtain⟨q,hqq⟩:∃q,M3 z kn=q:=⟨_,rfl⟩;rw[hqq]at hqn hqd;rw[hqq];have Hqn:=Lh hqn;have Hqd:=Lh (show((q.den:Nat):Int)=(kn:Int)/(g:Int)by rw[hqd];exact Ml _ _);have Hgp:=Lh (show(0:Int)<(g:Int)by omega);have sn:(txt q.num).size<=2901:=ten_size (by
  have h1:=M8 (z) (g:Int);rw[←hqn]at h1;omega)
 have sd:(txt (q.den:Int)).size<=2901:=ten_size (by
  rw [M0,hqd]; exact M5 (Mn _ _) hk)
 have hn1:q.den≠1->((txt (q.den:Int)).toList == [49])=false:=fun h=>txt_not1 (by omega) (by omega);obtain⟨T,hT⟩:∃T,txt q.num=T:=⟨_,rfl⟩;obtain⟨U,hU⟩:∃U,txt (q.den:Int)=U:=⟨_,rfl⟩;rw[hT]at sn;rw[hU]at sd hn1;have HT:=Lh hT;have HU:=Lh hU;have Hways:=Lh (show (q.den=1/\ratTxt q=T/\U=⟨#[49]⟩)\/(q.den≠1/\ratTxt q=T ++ ⟨#[47]⟩ ++ U/\(U.toList == [49])=false) by
  by_cases h:q.den=1
  ·exact .inl ⟨h,by unfold ratTxt;rw[if_pos h,hT],by rw[←hU,h];exact txt_1⟩
  ·exact .inr ⟨h,by unfold ratTxt; rw [if_neg h,hT,hU],hn1 h⟩)
 obtain⟨X,hX⟩:∃X,ratTxt q=X:=⟨_,rfl⟩;rw[hX]at Hways ⊢;obtain⟨Z,hZ⟩:∃Z,txt z=Z:=⟨_,rfl⟩;obtain⟨Y,hY⟩:∃Y,txt (kn:Int)=Y:=⟨_,rfl⟩;obtain⟨G,hG⟩:∃G,txt (g:Int)=G:=⟨_,rfl⟩;rw[hZ,hY,hG]at HG;rw[hZ,hG]at HD;rw[hY,hG]at HE;rw[hY]at HS;rw[hZ,hY];clear sz sk hqn hqd hge hgp hgk sg hn1 hT hU hZ hY hG hz hk hkp hqq hX;go_enter Tryz.func77,Tryz.ntmps77;go_wp2_with fail
 refine(HS.out _).mono ?_;rintro e w1⟨rfl,rfl⟩;have K2:=Lh (Below.refl w.heap.size w);go_wp2_with fail
 refine(HG.out _).mono ?_;rintro e w3⟨rfl,h3⟩;have K3:=Lh (below_on K2.out h3);clear h3;go_wp2_with fail
 refine(HD.out _).mono ?_;rintro e w4⟨⟨q1,r1,rfl,hdm⟩,h4⟩;have e1:=dm_ediv Hgp.out hdm;rw[←Hqn.out]at e1;subst e1;have K4:=Lh (below_on K3.out h4);clear h4 hdm;rw[HT.out];go_wp2_with fail
 refine(HE.out _).mono ?_;rintro e w5⟨⟨q2,r2,rfl,hdm⟩,h5⟩;have e2:=dm_ediv Hgp.out hdm;rw[←Hqd.out]at e2;subst e2;have K5:=Lh (below_on K4.out h5);clear h5 hdm;rw[HU.out];rcases Hways.out with⟨hd,hfin,rfl⟩|⟨hd,hfin,hn1⟩
 ·have Hfin:=Lh hfin;clear hd hfin;go_wp2;go_ret;exact⟨by rw[Hfin.out];rfl,K5.out⟩
 ·have Hfin:=Lh hfin;have cat1:∀W:JW,(Op.stringOp .add T ⟨#[47]⟩).run Tryz.prog W= .ok (Js (T ++ ⟨#[47]⟩)) W:=fun W=>run_string_add_sum W _ _ (by show T.size+1<=_;omega);have cat2:∀W:JW,(Op.stringOp .add (T ++ ⟨#[47]⟩) U).run Tryz.prog W= .ok (Js (T ++ ⟨#[47]⟩ ++ U)) W:=fun W=>run_string_add_sum W _ _ (by rw[M2];show T.size+1+U.size<=_;omega);clear hd hfin;go_wp2;go_ret;exact⟨by rw[Hfin.out];rfl,K5.out⟩
theorem text_neg(z:Int)(kn:Nat)(w:JW)(hz:(-z).natAbs<ten 2900)(hk:kn<ten 2900)(hkp:0<kn) :
  Calls Tryz.prog 77 #[Js (txt z),Js (txt (-(kn:Int)))] w fun e w'=>e= .returned (Js (ratTxt (M3 (-z) kn)))/\Below w.heap.size w w':=by
 have sz0:(txt z).size<=2901:=ten_size (by rw[Mj]at hz;exact hz);have sk0:(txt (-(kn:Int))).size<=2901:=ten_size (by rw[Mj,M0];exact hk);have HS:=Lh (fun w=>refSign_any (-(kn:Int)) w (by omega));rw[show sgn (-(kn:Int))=-1 by unfold sgn;rw[if_pos (by omega)]]at HS;have HN:=Lh (fun w=>refNeg_any z w (by omega));have HM:=Lh (fun w=>refNeg_any (-(kn:Int)) w (by omega));rw[Int.neg_neg]at HM;have sz:=ten_size hz;have sk:(txt (kn:Int)).size<=2901:=ten_size (by rw[M0];exact hk);obtain⟨hqn,hqd⟩:=rat_make (n:=(-z)) (k:=kn) hkp;obtain⟨g,hge⟩:∃g,Mp ((-z)).natAbs kn=g:=⟨_,rfl⟩;have hgp:0<g:=by rw[←hge];exact M9 _ hkp
 have hgk:g<=kn:=by rw[←hge];exact Mk _ hkp
 have sg:(txt (g:Int)).size<=2901:=ten_size (by rw[M0];exact M5 hgk hk);have HG:=Lh (fun w=>refGcd_any (-z) (kn:Int) w (by omega) (by omega));have HD:=Lh (fun w=>refDivMod_any (-z) (g:Int) w (by omega) (by omega) (by omega));have HE:=Lh (fun w=>refDivMod_any (kn:Int) (g:Int) w (by omega) (by omega) (by omega));rw[M0,hge]at HG;rw[hge]at hqn hqd;obtain⟨q,hqq⟩:∃q,M3 (-z) kn=q:=⟨_,rfl⟩;rw[hqq]at hqn hqd;rw[hqq];have Hqn:=Lh hqn;have Hqd:=Lh (show((q.den:Nat):Int)=(kn:Int)/(g:Int)by rw[hqd];exact Ml _ _);have Hgp:=Lh (show(0:Int)<(g:Int)by omega);have sn:(txt q.num).size<=2901:=ten_size (by
  have h1:=M8 ((-z)) (g:Int);rw[←hqn]at h1;omega)
 have sd:(txt (q.den:Int)).size<=2901:=ten_size (by
  rw [M0,hqd]; exact M5 (Mn _ _) hk)
 have hn1:q.den≠1->((txt (q.den:Int)).toList == [49])=false:=fun h=>txt_not1 (by omega) (by omega);obtain⟨T,hT⟩:∃T,txt q.num=T:=⟨_,rfl⟩;obtain⟨U,hU⟩:∃U,txt (q.den:Int)=U:=⟨_,rfl⟩;rw[hT]at sn;rw[hU]at sd hn1;have HT:=Lh hT;have HU:=Lh hU;have Hways:=Lh (show (q.den=1/\ratTxt q=T/\U=⟨#[49]⟩)\/(q.den≠1/\ratTxt q=T ++ ⟨#[47]⟩ ++ U/\(U.toList == [49])=false) by
  by_cases h:q.den=1
  ·exact .inl ⟨h,by unfold ratTxt;rw[if_pos h,hT],by rw[←hU,h];exact txt_1⟩
  ·exact .inr ⟨h,by unfold ratTxt; rw [if_neg h,hT,hU],hn1 h⟩)
 obtain⟨X,hX⟩:∃X,ratTxt q=X:=⟨_,rfl⟩;rw[hX]at Hways ⊢;obtain⟨Z,hZ⟩:∃Z,txt (-z)=Z:=⟨_,rfl⟩;obtain⟨Y,hY⟩:∃Y,txt (kn:Int)=Y:=⟨_,rfl⟩;obtain⟨G,hG⟩:∃G,txt (g:Int)=G:=⟨_,rfl⟩;obtain⟨Z0,hZ0⟩:∃Z,txt z=Z:=⟨_,rfl⟩;obtain⟨Y0,hY0⟩:∃Y,txt (-(kn:Int))=Y:=⟨_,rfl⟩;rw[hZ,hY,hG]at HG;rw[hZ,hG]at HD;rw[hY,hG]at HE;rw[hY0]at HS;rw[hZ0,hZ]at HN;rw[hY0,hY]at HM;rw[hZ0,hY0];clear sz sk hqn hqd hge hgp hgk sg hn1 hT hU hZ hY hG hz hk hkp hqq hX hZ0 hY0 sz0 sk0;go_enter Tryz.func77,Tryz.ntmps77;go_wp2_with fail
 refine(HS.out _).mono ?_;rintro e w1⟨rfl,rfl⟩;go_wp2_with fail
 refine(HN.out _).mono ?_;rintro e w1⟨rfl,h1⟩;have K1:=Lh h1;clear h1;go_wp2_with fail
 refine(HM.out _).mono ?_;rintro e w2⟨rfl,h2⟩;have K2:=Lh (below_on K1.out h2);clear h2;go_wp2_with fail
 refine(HG.out _).mono ?_;rintro e w3⟨rfl,h3⟩;have K3:=Lh (below_on K2.out h3);clear h3;go_wp2_with fail
 refine(HD.out _).mono ?_;rintro e w4⟨⟨q1,r1,rfl,hdm⟩,h4⟩;have e1:=dm_ediv Hgp.out hdm;rw[←Hqn.out]at e1;subst e1;have K4:=Lh (below_on K3.out h4);clear h4 hdm;rw[HT.out];go_wp2_with fail
 refine(HE.out _).mono ?_;rintro e w5⟨⟨q2,r2,rfl,hdm⟩,h5⟩;have e2:=dm_ediv Hgp.out hdm;rw[←Hqd.out]at e2;subst e2;have K5:=Lh (below_on K4.out h5);clear h5 hdm;rw[HU.out];rcases Hways.out with⟨hd,hfin,rfl⟩|⟨hd,hfin,hn1⟩
 ·have Hfin:=Lh hfin;clear hd hfin;go_wp2;go_ret;exact⟨by rw[Hfin.out];rfl,K5.out⟩
 ·have Hfin:=Lh hfin;have cat1:∀W:JW,(Op.stringOp .add T ⟨#[47]⟩).run Tryz.prog W= .ok (Js (T ++ ⟨#[47]⟩)) W:=fun W=>run_string_add_sum W _ _ (by show T.size+1<=_;omega);have cat2:∀W:JW,(Op.stringOp .add (T ++ ⟨#[47]⟩) U).run Tryz.prog W= .ok (Js (T ++ ⟨#[47]⟩ ++ U)) W:=fun W=>run_string_add_sum W _ _ (by rw[M2];show T.size+1+U.size<=_;omega);clear hd hfin;go_wp2;go_ret;exact⟨by rw[Hfin.out];rfl,K5.out⟩
theorem refRat_any(z k:Int)(w:JW)(hz:z.natAbs<ten 2900)(hk:k.natAbs<ten 2900)(hk0:k≠0) :
  Calls Tryz.prog 77 #[Js (txt z),Js (txt k)] w fun e w'=>e= .returned (Js (ratTxt (M3 z k)))/\Below w.heap.size w w':=by
 rcases Int.lt_or_gt_of_ne hk0 with hn|hp
 ·have e:k=-((k.natAbs:Nat):Int):=by omega
  have e2:M3 z k=M3 (-z) (k.natAbs:Nat):=by rw[←rat_neg];congr 1;omega
  have h:=text_neg z k.natAbs w (by rw[Mj];exact hz) hk (by omega);rw[←e]at h;rw[e2];exact h
 ·have e:k=((k.natAbs:Nat):Int):=by omega
  have h:=text_pos z k.natAbs w hz hk (by omega);rw[←e]at h;exact h
def allZero(l:List UInt8):Bool:=l.all (· ==48)
def slashAt(s:ByteArray):Nat:=s.data.toList.findIdx (· ==47)
theorem slashAt_le(s:ByteArray):slashAt s<=s.size:=by
 have:=List.findIdx_le_length (xs:=s.data.toList) (p:=(· ==47))
 rwa [str_len]at this
theorem slash_whole{s:ByteArray}(h:slashAt s<s.size):s=s.extract 0 (slashAt s) ++ ⟨#[47]⟩ ++ s.extract (slashAt s+1) s.size:=by
 have hlt:slashAt s<s.data.toList.length:=by rw[str_len];exact h
 have h47:=List.findIdx_getElem (xs:=s.data.toList) (p:=(· ==47)) (w:=hlt);have h47:s.data.toList[slashAt s]=47:=eq_of_beq h47;apply Mr;apply Array.toList_inj.1;have e:(s.extract 0 (slashAt s) ++ ⟨#[47]⟩ ++ s.extract (slashAt s+1) s.size).data.toList=(s.extract 0 (slashAt s)).data.toList ++ [47] ++ (s.extract (slashAt s+1) s.size).data.toList:=by simp[Mq]
 rw[e,extract_data];have e2:(s.extract 0 (slashAt s)).data.toList=s.data.toList.take (slashAt s):=by simp[Mo]
 rw[e2,List.append_assoc,List.singleton_append,←h47,←List.drop_eq_getElem_cons hlt,List.take_append_drop]
def Tx(s:ByteArray)(z:Int):Prop:=errOf s=0/\zOf s=z
theorem Tx.txt{s:ByteArray}{z:Int}(h:Tx s z):txt z=s:=by rw[←h.2];exact txt_zOf h.1
def IsR(s:ByteArray):Prop:=∃q:Rat,ratTxt q=s/\Tx (txt q.num) q.num/\(q.den≠1->Tx (txt (q.den:Int)) (q.den:Int))/\(txt q.num).size<=s.size/\(q.den≠1->(txt (q.den:Int)).size<=s.size)
theorem size_cat(T U:ByteArray):(T ++ ⟨#[47]⟩ ++ U).size=T.size+1+U.size:=by rw[M2,M2];rfl
theorem isR_int{s:ByteArray}(h:errOf s=0):IsR s:=by
 have e:=txt_zOf h;have hn:((zOf s:Int):Rat).num=zOf s:=Rat.num_intCast _;have hd:((zOf s:Int):Rat).den=1:=Rat.den_intCast _;refine⟨((zOf s:Int):Rat),by unfold ratTxt;rw[if_pos hd,hn,e],by rw[hn,e];exact⟨h,rfl⟩,fun h1=>absurd hd h1,by rw[hn,e];exact Nat.le_refl _,fun h1=>absurd hd h1⟩
theorem isR_frac{T U:ByteArray}{z d:Int}(hT:Tx T z)(hU:Tx U d)(hd:1<d)(hg:Mp z.natAbs d.natAbs=1):IsR (T ++ ⟨#[47]⟩ ++ U):=by
 have e1:=hT.txt;have e2:=hU.txt;have hk:d=((d.natAbs:Nat):Int):=by omega
 obtain⟨h1,h2⟩:=rat_make (n:=z) (k:=d.natAbs) (by omega);rw[hg]at h1 h2;rw[Int.natCast_one,Int.ediv_one]at h1;rw[Nat.div_one]at h2;refine⟨M3 z (d.natAbs:Nat),?_,by rw[h1,e1];exact hT,fun _=>by rw[h2,←hk,e2];exact hU,by rw[h1,e1,size_cat];omega,fun _=>by rw[h2,←hk,e2,size_cat];omega⟩;unfold ratTxt;rw[if_neg (by omega),h1,h2,←hk,e1,e2]
theorem den_neg{den:ByteArray}(hd:allDig den.data.toList=true):isNeg den=false:=by
 unfold isNeg;cases hl:den.data.toList with
 | nil=>rfl
 | cons c l=>
  rw[hl]at hd;unfold allDig at hd;rw[List.all_cons,M1]at hd;have h1:=hd.1;rw[List.head?_cons];have:c≠45:=by intro e;rw[e]at h1;revert h1;decide
  simpa using this
theorem den_good{den:ByteArray}(hd:allDig den.data.toList=true)(h0:0<den.size)(h1:lead0 den=false):errOf den=0/\0<zOf den:=by
 have hn:=den_neg hd;have hb:bodyOf den=den:=by unfold bodyOf;rw[hn];rfl
 have he:=(errOf_ways hb).2.2.2 hd h0 (fun⟨hl,_⟩=>by rw[h1]at hl;cases hl);refine⟨he,?_⟩;have hnn:0<=zOf den:=by unfold zOf signZ;rw[hn];simp
 rcases Int.lt_or_eq_of_le hnn with h|h
 ·exact h
 ·exfalso;have e:=txt_zOf he;rw[←h,txt_zero]at e;rw[←e]at h1
  revert h1
  decide
theorem dig_true{l:List UInt8}{n:Nat}(h:(allDig l && decide (0<n))=true):allDig l=true/\0<n:=by
 rw[M1]at h;exact⟨h.1,of_decide_eq_true h.2⟩
