/- C17: Phase -/
import Derived.Test.YthhobhjcnmmipaaGreatDoorC13
import Derived.Test.YthhobhjcnmmipaaGreatDoorC08
set_option maxRecDepth 100000
set_option maxHeartbeats 16000000
namespace Go.Proofs.YthhobhjcnmmipaaGreatDoor
open Go.Value renaming pointer→Jp
open _root_.Option renaming some→Jo
open Go renaming World→JW
open _root_.Bool renaming and_eq_true→E4
open _root_.Array renaming size_setIfInBounds→E5
open Go.Region renaming Mode→E6,ready→E9,wanted→EZ
open _root_.List renaming all_eq_true→E7,mem_range→E8,range→EY
open Go.RowKit

def puts(a:Act):List (Tmp × Value)->Act
  | []=>a
  |(d,v) :: r=>puts (a.put (Jo d) v) r
def also(d:Nat->Bool)(i j:Nat):Bool:=if j=i then true else d j
section
variable {P:Program} {md:E6} {ops:Array Oper} {Q:Exit->Act->JW->Prop} {S:JW->Prop} {k:Nat}
theorem Till.more:∀(n:Nat) (l:Array Bool) (a:Act) (w:JW),Till P md ops Q S k n l a w->Till P md ops Q S k (n+1) l a w
  | 0,_,_,_,h=>⟨fun _=>h.2,by rw[h.1];simp⟩
  | n+1,_,_,_,h=>⟨h.1,fun i hi=>wpOp_mono (fun b v hb=>⟨hb.1,Till.more n _ b v hb.2⟩) (h.2 i hi)⟩
theorem Till.raise{n:Nat}{l:Array Bool}{a:Act}{w:JW}(h:Till P md ops Q S k n l a w):∀m:Nat,Till P md ops Q S k (m+n) l a w
  | 0=>by rw[Nat.zero_add];exact h
  | m+1=>by rw[Nat.succ_add];exact Till.more _ _ _ _ (Till.raise h m)
def Step(P:Program)(md:E6)(ops:Array Oper)(Q:Exit->Act->JW->Prop)(I:(Nat->Bool)->Act->JW->Prop)(i:Nat)(o:Oper):Prop:=
  ∀(d:Nat->Bool) (a:Act) (w:JW),I d a w->d i=false->(∀j,Qp md ops i j=true->d j=true)->∀K:Act->JW->Prop,Shut (∀b v,I (also d i) b v->K b v)->if EZ o (yielded ops a.tmps)=true then Oper.wp P o a w K Q else K (a.put o.dst undef) w
def UT(P:Program)(md:E6)(ops:Array Oper)(Q:Exit->Act->JW->Prop)(I:(Nat->Bool)->Act->JW->Prop):List Nat->Prop
  | []=>True
  | i :: r=>(∃o,ops[i]?=Jo o/\Step P md ops Q I i o)/\UT P md ops Q I r
theorem UT.at_{I:(Nat->Bool)->Act->JW->Prop}:∀ {E:List Nat},UT P md ops Q I E->∀i∈E,∃o,ops[i]?=Jo o/\Step P md ops Q I i o
  | [],_,_,hi=>by cases hi
  | j :: r,h,i,hi=>by
    rcases List.mem_cons.1 hi with rfl|hi
    · exact h.1
    · exact UT.at_ h.2 i hi
def VR(ops:Array Oper)(j:Nat):Bool:=
  match ops[j]? with
  | some o=>o.after.all fun e=>decide (e.on<ops.size)
  | none=>true
def UG(md:E6)(ops:Array Oper)(l0 l1:Array Bool)(E:List Nat):Bool:=
  (l0.size ==ops.size) && (l1.size ==ops.size) &&
  (EY ops.size).all fun j=>
    (l1.getD j false ==(E.contains j || l0.getD j false)) &&
    (if E.contains j then ((EY ops.size).all fun i=>!Qp md ops j i || l0.getD i false || (E.contains i && decide (i<j))) && VR ops j
     else l0.getD j false || ((EY ops.size).any fun i=>Qp md ops j i && !l1.getD i false) || E.all fun i=>Qp md ops j i)
theorem Xi{E:List Nat}{d:Nat->Bool}{i:Nat}(hi:i∈E)(h:d i=false):E.countP (fun j=>!also d i j)<E.countP (fun j=>!d j):=by
  have mono:∀F:List Nat,F.countP (fun j=>!also d i j)<=F.countP (fun j=>!d j):=fun F=>by
    refine List.countP_mono_left fun j _ hj=>?_;unfold also at hj
    split at hj
    · cases hj
    · exact hj
  induction E with
  | nil=>cases hi
  | cons j r ih=>
    rw[List.countP_cons,List.countP_cons];by_cases hji:j=i
    · subst hji
      have:=mono r;have e1:(!also d j j)=false:=by unfold also;rw[if_pos rfl];rfl
      rw[e1,h];simp;omega
    · rcases List.mem_cons.1 hi with e|hi
      · exact absurd e.symm hji
      · have:=ih hi
        have e1:(!also d i j)=!d j:=by unfold also;rw[if_neg hji]
        rw[e1];omega
theorem JL{l:Array Bool}{j:Nat}(h:j<l.size)(b:Bool):l.getD j b=l[j]:=by simp[h]
theorem GJ{i:Nat}{o:Oper}(ho:ops[i]?=Jo o){l:Array Bool}(h:∀e∈o.after,Region.binds md e=true->l.getD e.on false=true)(j:Nat)(hw:Qp md ops i j=true):l.getD j false=true:=by
  unfold Qp at hw;rw[ho]at hw;obtain⟨e,he,h2⟩:=Array.any_eq_true'.1 hw;simp only[E4,beq_iff_eq]at h2;rw[←h2.2];exact h e he h2.1
theorem GI{i:Nat}{o:Oper}(ho:ops[i]?=Jo o){e:Edge}(he:e∈o.after)(hb:Region.binds md e=true):Qp md ops i e.on=true:=by
  unfold Qp;rw[ho];exact Array.any_eq_true'.2 ⟨e,he,by simp[hb]⟩
theorem Till.phase_aux{I:(Nat->Bool)->Act->JW->Prop}{E:List Nat}{l0 l1:Array Bool}{m:Nat}(hc:UG md ops l0 l1 E=true)(hS:∀d a w,I d a w->S w)(steps:UT P md ops Q I E)
    (fin:∀d a w,I d a w->(∀i∈E,d i=true)->Till P md ops Q S k m l1 a w) :
    ∀(n:Nat) (l:Array Bool) (d:Nat->Bool) (a:Act) (w:JW),E.countP (fun j=>!d j)<=n->l.size=ops.size->(∀j<ops.size,l.getD j false=d j)->(∀j,j ∉ E->j<ops.size->d j=l0.getD j false)->(∀j,l0.getD j false=true->d j=true)->I d a w->Till P md ops Q S k (n+m) l a w:=by
  unfold UG at hc;simp only[E4,beq_iff_eq,E7,E8]at hc;obtain⟨⟨hs0,hs1⟩,hall⟩:=hc;have done:∀(l:Array Bool) (d:Nat->Bool) (a:Act) (w:JW),l.size=ops.size->(∀j<ops.size,l.getD j false=d j)->(∀j,j ∉ E->j<ops.size->d j=l0.getD j false)->I d a w->(∀i∈E,d i=true)->Till P md ops Q S k m l a w:=by
    intro l d a w hl hd hout hI hE;have e:l=l1:=by
      apply Array.ext (hl.trans hs1.symm);intro j h1 h2;have hj:j<ops.size:=by omega
      have e1:=(hall j hj).1;rw[JL h2]at e1;have e2:=hd j hj;rw[JL h1]at e2;rw[e1,e2];by_cases hjE:j∈E
      · rw[hE j hjE,List.contains_iff_mem.2 hjE];rfl
      · rw[hout j hjE hj,show E.contains j=false from by simpa using hjE];rfl
    rw[e];exact fin d a w hI hE
  intro n
  induction n with
  | zero=>
    intro l d a w hn hl hd hout _ hI;rw[Nat.zero_add];refine done l d a w hl hd hout hI fun i hi=>?_;have h0:E.countP (fun j=>!d j)=0:=by omega
    have:=List.countP_eq_zero.1 h0 i hi;simpa using this
  | succ n ih=>
    intro l d a w hn hl hd hout hl0 hI;by_cases hE:∀i∈E,d i=true
    · exact Till.raise (done l d a w hl hd hout hI hE) (n+1)
    have hex:∃i,i∈E/\d i=false:=by
      apply Classical.byContradiction;intro hno;refine hE fun i hi=>?_;cases hdi:d i with
      | true=>rfl
      | false=>exact absurd ⟨i,hi,hdi⟩ hno
    rw[Nat.succ_add];refine⟨fun h0=>?_,fun i hi=>?_⟩
    · -- the least one that has not come up is ready
      exfalso;have least:∀b:Nat,∀i,i<b->i∈E->d i=false->False:=by
        intro b
        induction b with
        | zero=>intro i hi;omega
        | succ b ihb=>
          intro i hib hiE hdi;obtain⟨o,ho,_⟩:=steps.at_ i hiE;have his:i<ops.size:=(Array.getElem?_eq_some_iff.1 ho).1;have hcond:=(hall i his).2;rw[if_pos (List.contains_iff_mem.2 hiE)]at hcond;simp only[E7,E8,Bool.or_eq_true,Bool.not_eq_true',E4,decide_eq_true_eq]at hcond;obtain⟨hcond,hwi⟩:=hcond;have hr:i∈E9 md ops l:=by
            refine mem_ready.2 ⟨by rw[JL (by omega)];rw[←JL (by omega) false,hd i his,hdi],o,ho,fun e he hb=>?_⟩;have hw:=GI ho he hb;by_cases hes:e.on<ops.size
            · rw[hd _ hes]
              rcases hcond e.on hes with(h1|h1)|h1
              · rw[hw]at h1;cases h1
              · exact hl0 _ h1
              · cases hde:d e.on with
                | true=>rfl
                | false=>exact(ihb e.on (by omega) (List.contains_iff_mem.1 h1.1) hde).elim
            · exfalso
              unfold VR at hwi;rw[ho]at hwi;have:=Array.all_eq_true_iff_forall_mem.1 hwi e he;exact hes (by simpa using this)
          rw[h0]at hr;cases hr
      obtain⟨i,hiE,hdi⟩:=hex;exact least (i+1) i (by omega) hiE hdi
    · obtain⟨hi0,o,ho,hafter⟩:=mem_ready.1 hi
      have his:i<ops.size:=(Array.getElem?_eq_some_iff.1 ho).1;have hdi:d i=false:=by rw[←hd i his,JL (by omega)];rw[JL (by omega)]at hi0;exact hi0
      have hpre:∀j,Qp md ops i j=true->l.getD j false=true:=GJ ho hafter;have hsz:∀j,l.getD j false=true->j<ops.size:=fun j hj=>by
        rcases Nat.lt_or_ge j l.size with h|h
        · omega
        · simp[Array.getD_eq_getD_getElem?,Array.getElem?_eq_none h]at hj
      have hpd:∀j,Qp md ops i j=true->d j=true:=fun j hj=>by
        have h1:=hpre j hj;rw[←hd j (hsz j h1)];exact h1
      by_cases hiE:i∈E
      · obtain⟨o',ho',hstep⟩:=steps.at_ i hiE
        have key:wpOp P ops Q i (I (also d i)) a w:=wpOp_step ho' fun K hK=>hstep d a w hI hdi hpd K hK;refine wpOp_mono (fun b v hb=>⟨fun _=>hS _ _ _ hb,?_⟩) key;refine ih (l.setIfInBounds i true) (also d i) b v (by have:=Xi hiE hdi;omega) (by rw[E5];exact hl) (fun j hj=>?_) (fun j hjE hj=>?_) (fun j hj0=>?_) hb
        · unfold also
          split
          · rename_i h;subst h;rw[JL (by rw[E5];omega)];simp
          · rename_i h
            rw[JL (by rw[E5];omega),Array.getElem_setIfInBounds_ne (by omega) (Ne.symm h),←hd j hj,JL (by omega)]
        · unfold also
          rw[if_neg (fun h=>hjE (by rw[h];exact hiE))];exact hout j hjE hj
        · unfold also
          split
          · rfl
          · exact hl0 j hj0
      · exfalso
        have hcond:=(hall i his).2;rw[if_neg (fun h=>hiE (List.contains_iff_mem.1 h))]at hcond;simp only[List.any_eq_true,E7,E8,Bool.or_eq_true,Bool.not_eq_true',E4]at hcond;rcases hcond with(h1|⟨j,hj,h1,h2⟩)|h1
        · rw[←hout i hiE his,hdi]at h1;cases h1
        · have h3:=hpd j h1
          have h4:=(hall j hj).1;rw[h2]at h4;have h5:E.contains j=false/\l0.getD j false=false:=by simpa using h4.symm
          rw[hout j (by simpa using h5.1) hj,h5.2]at h3;cases h3
        · obtain⟨i',hi'E,hdi'⟩:=hex
          have h3:=hpd i' (h1 i' hi'E);rw[hdi']at h3;cases h3
theorem Till.phase(E:List Nat)(l1:Array Bool)(m:Nat)(J:Act->(Nat->Bool)->Act->JW->Prop){l0:Array Bool}{n:Nat}{a0:Act}{w0:JW}(hn:n=E.length+m)(hc:UG md ops l0 l1 E=true)(hS:∀d a w,J a0 d a w->S w)
    (h0:J a0 (fun j=>l0.getD j false) a0 w0) (steps:UT P md ops Q (J a0) E)
    (fin:∀d a w,J a0 d a w->(∀i∈E,d i=true)->Till P md ops Q S k m l1 a w):Till P md ops Q S k n l0 a0 w0:=by
  rw[hn];have hs:l0.size=ops.size:=by
    unfold UG at hc;simp only[E4,beq_iff_eq]at hc;exact hc.1.1
  exact Till.phase_aux hc hS steps fin E.length l0 _ a0 w0 List.countP_le_length hs (fun _ _=>rfl) (fun _ _ _=>rfl) (fun _ h=>h) h0
end
def Qh(w:JW)(t:Value)(z:Int):Prop:=∃(x:Int) (X:Option Addr),t= .agg #[.int .i64 x,Jp X]/\Jj 0 w (.agg #[.int .i64 x,Jp X]) z
theorem Qh.keep{w w':JW}{t:Value}{z:Int}(h:Qh w t z)(hb:Below w.heap.size w w'):Qh w' t z:=by
  obtain⟨x,X,e,hx⟩:=h;exact⟨x,X,e,hx.keep hb⟩
def PtrI(b:Nat)(w:JW)(t:Value):Prop:=∃p:Nat,t=Jp (Jo ⟨p,0,none⟩)/\b<=p/\Hold w p 0 none
theorem PtrI.keep{b:Nat}{w w':JW}{t:Value}(h:PtrI b w t)(hb:Below w.heap.size w w'):PtrI b w' t:=by
  obtain⟨p,e,hp,hh⟩:=h;exact⟨p,e,hp,hh.keep hb⟩
theorem PtrI.ne{b:Nat}{w:JW}{t:Value}(h:PtrI b w t):t≠ Jp (Jo ⟨w.heap.size,0,none⟩):=by
  obtain⟨p,rfl,_,hh⟩:=h;intro e;have hlt:=hh.lt
  injection e with e
  injection e with e
  injection e with e
  omega
section
variable {P:Program} {md:E6} {ops:Array Oper} {Q:Exit->Act->JW->Prop} {S:JW->Prop} {k:Nat}
def Arm(P:Program)(md:E6)(ops:Array Oper)(Q:Exit->Act->JW->Prop)(S:JW->Prop)(k n:Nat)(l:Array Bool)(a:Act)(w:JW)(i:Nat)(o:Oper):Prop:=
  ∀K:Act->JW->Prop,Shut (∀b v,((l.setIfInBounds i true).getD k true=false->S v)->Till P md ops Q S k n (l.setIfInBounds i true) b v->K b v)->if EZ o (yielded ops a.tmps)=true then Oper.wp P o a w K Q else K (a.put o.dst undef) w
theorem Arm.op{i:Nat}{o:Oper}{n:Nat}{l:Array Bool}{a:Act}{w:JW}(ho:ops[i]?=Jo o)(h:Arm P md ops Q S k n l a w i o):wpOp P ops Q i (fun b v=>((l.setIfInBounds i true).getD k true=false->S v)/\Till P md ops Q S k n (l.setIfInBounds i true) b v) a w:=
  wpOp_step ho fun K hK=>h K fun b v h1 h2=>hK b v ⟨h1,h2⟩
theorem Till.two{i j:Nat}{o o':Oper}{n:Nat}{l:Array Bool}{a:Act}{w:JW}(hr:E9 md ops l=[i,j])(ho:ops[i]?=Jo o)(ho':ops[j]?=Jo o')
    (h:Arm P md ops Q S k n l a w i o) (h':Arm P md ops Q S k n l a w j o'):Till P md ops Q S k (n+1) l a w:=by
  refine⟨fun h0=>absurd (hr.symm.trans h0) (by simp),fun m hm=>?_⟩;rw[hr]at hm;rcases List.mem_cons.1 hm with rfl|hm
  · exact h.op ho
  · obtain rfl:=List.mem_singleton.1 hm
    exact h'.op ho'
theorem Till.three{i j g:Nat}{o o' o2:Oper}{n:Nat}{l:Array Bool}{a:Act}{w:JW}(hr:E9 md ops l=[i,j,g])(ho:ops[i]?=Jo o)(ho':ops[j]?=Jo o')(ho2:ops[g]?=Jo o2)
    (h:Arm P md ops Q S k n l a w i o) (h':Arm P md ops Q S k n l a w j o') (h2:Arm P md ops Q S k n l a w g o2):Till P md ops Q S k (n+1) l a w:=by
  refine⟨fun h0=>absurd (hr.symm.trans h0) (by simp),fun m hm=>?_⟩;rw[hr]at hm;rcases List.mem_cons.1 hm with rfl|hm
  · exact h.op ho
  rcases List.mem_cons.1 hm with rfl|hm
  · exact h'.op ho'
  · obtain rfl:=List.mem_singleton.1 hm
    exact h2.op ho2
end
def Qn(w:JW)(t:Value)(q:Rat):Prop:=∃(a:Int) (P:Option Addr) (b:Int) (Q:Option Addr),t= .agg #[.int .i64 a,Jp P,.int .i64 b,Jp Q]/\RatV w a P b Q q
theorem Qn.keep{w w':JW}{t:Value}{q:Rat}(h:Qn w t q)(hb:Below w.heap.size w w'):Qn w' t q:=by
  obtain⟨a,P,b,Q,e,hx⟩:=h;exact⟨a,P,b,Q,e,hx.keep hb⟩
def PtrR(b:Nat)(w:JW)(t:Value):Prop:=∃p:Nat,t=Jp (Jo ⟨p,0,none⟩)/\b<=p/\Jh w p [.int .i64 0,Jp none,.int .i64 0,Jp none]
theorem PtrR.keep{b:Nat}{w w':JW}{t:Value}(h:PtrR b w t)(hb:Below w.heap.size w w'):PtrR b w' t:=by
  obtain⟨p,e,hp,hh⟩:=h;exact⟨p,e,hp,hh.keep hb⟩
theorem PtrR.ne{b:Nat}{w:JW}{t:Value}(h:PtrR b w t):t≠ Jp (Jo ⟨w.heap.size,0,none⟩):=by
  obtain⟨p,rfl,_,hh⟩:=h;intro e;have hlt:=hh.lt
  injection e with e
  injection e with e
  injection e with e
  omega
