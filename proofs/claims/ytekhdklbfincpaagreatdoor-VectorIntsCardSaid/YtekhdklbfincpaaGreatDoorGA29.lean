/- GA29: Phase -/
import Derived.Test.YtekhdklbfincpaaGreatDoorGA23
import Derived.Test.YtekhdklbfincpaaGreatDoorGA15
set_option maxRecDepth 100000
set_option maxHeartbeats 16000000
namespace Go.Proofs.YtekhdklbfincpaaGreatDoor
open Go.RowKit

def puts (a:Act):List (Tmp × Value)→Act
  | []=>a
  | (d,v) :: r=>puts (a.put (some d) v) r
def also (d:Nat→Bool) (i j:Nat):Bool:=if j=i then true else d j
section
variable {P:Program} {md:Region.Mode} {ops:Array Oper} {Q:Exit→Act→World→Prop} {S:World→Prop} {k:Nat}
theorem Till.more:∀ (n:Nat) (l:Array Bool) (a:Act) (w:World),Till P md ops Q S k n l a w→Till P md ops Q S k (n+1) l a w
  | 0,_,_,_,h=>⟨fun _=>h.2,by rw [h.1]; simp⟩
  | n+1,_,_,_,h=>⟨h.1,fun i hi=>wpOp_mono (fun b v hb=>⟨hb.1,Till.more n _ b v hb.2⟩) (h.2 i hi)⟩
theorem Till.raise {n:Nat} {l:Array Bool} {a:Act} {w:World} (h:Till P md ops Q S k n l a w):∀ m:Nat,Till P md ops Q S k (m+n) l a w
  | 0=>by rw [Nat.zero_add]; exact h
  | m+1=>by rw [Nat.succ_add]; exact Till.more _ _ _ _ (Till.raise h m)
def Step (P:Program) (md:Region.Mode) (ops:Array Oper) (Q:Exit→Act→World→Prop) (I:(Nat→Bool)→Act→World→Prop) (i:Nat) (o:Oper):Prop:=
  ∀ (d:Nat→Bool) (a:Act) (w:World),I d a w→d i=false→(∀ j,waits md ops i j=true→d j=true)→∀ K:Act→World→Prop,Shut (∀ b v,I (also d i) b v→K b v)→if Region.wanted o (yielded ops a.tmps)=true then Oper.wp P o a w K Q else K (a.put o.dst undef) w
def Steps (P:Program) (md:Region.Mode) (ops:Array Oper) (Q:Exit→Act→World→Prop) (I:(Nat→Bool)→Act→World→Prop):List Nat→Prop
  | []=>True
  | i :: r=>(∃ o,ops[i]?=some o∧Step P md ops Q I i o)∧Steps P md ops Q I r
theorem Steps.at_ {I:(Nat→Bool)→Act→World→Prop}:∀ {E:List Nat},Steps P md ops Q I E→∀ i ∈ E,∃ o,ops[i]?=some o∧Step P md ops Q I i o
  | [],_,_,hi=>by cases hi
  | j :: r,h,i,hi=>by
    rcases List.mem_cons.1 hi with rfl | hi
    · exact h.1
    · exact Steps.at_ h.2 i hi
def within (ops:Array Oper) (j:Nat):Bool:=
  match ops[j]? with
  | some o=>o.after.all fun e=>decide (e.on<ops.size)
  | none=>true
def phaseOk (md:Region.Mode) (ops:Array Oper) (l0 l1:Array Bool) (E:List Nat):Bool:=
  (l0.size == ops.size) && (l1.size == ops.size) &&
  (List.range ops.size).all fun j=>
    (l1.getD j false == (E.contains j || l0.getD j false)) &&
    (if E.contains j then ((List.range ops.size).all fun i=>!waits md ops j i || l0.getD i false || (E.contains i && decide (i<j))) && within ops j
     else l0.getD j false || ((List.range ops.size).any fun i=>waits md ops j i && !l1.getD i false) || E.all fun i=>waits md ops j i)
theorem countP_step {E:List Nat} {d:Nat→Bool} {i:Nat} (hi:i ∈ E) (h:d i=false):E.countP (fun j=>!also d i j)<E.countP (fun j=>!d j):=by
  have mono:∀ F:List Nat,F.countP (fun j=>!also d i j)≤F.countP (fun j=>!d j):=fun F=>by
    refine List.countP_mono_left fun j _ hj=>?_
    unfold also at hj
    split at hj
    · cases hj
    · exact hj
  induction E with
  | nil=>cases hi
  | cons j r ih=>
    rw [List.countP_cons,List.countP_cons]
    by_cases hji:j=i
    · subst hji
      have:=mono r
      have e1:(!also d j j)=false:=by unfold also; rw [if_pos rfl]; rfl
      rw [e1,h]
      simp
      omega
    · rcases List.mem_cons.1 hi with e | hi
      · exact absurd e.symm hji
      · have:=ih hi
        have e1:(!also d i j)=!d j:=by unfold also; rw [if_neg hji]
        rw [e1]
        omega
theorem getD_flag {l:Array Bool} {j:Nat} (h:j<l.size) (b:Bool):l.getD j b=l[j]:=by simp [h]
theorem waits_of {i:Nat} {o:Oper} (ho:ops[i]?=some o) {l:Array Bool} (h:∀ e ∈ o.after,Region.binds md e=true→l.getD e.on false=true) (j:Nat) (hw:waits md ops i j=true):l.getD j false=true:=by
  unfold waits at hw
  rw [ho] at hw
  obtain ⟨e,he,h2⟩:=Array.any_eq_true'.1 hw
  simp only [Bool.and_eq_true,beq_iff_eq] at h2
  rw [← h2.2]
  exact h e he h2.1
theorem waits_on {i:Nat} {o:Oper} (ho:ops[i]?=some o) {e:Edge} (he:e ∈ o.after) (hb:Region.binds md e=true):waits md ops i e.on=true:=by
  unfold waits
  rw [ho]
  exact Array.any_eq_true'.2 ⟨e,he,by simp [hb]⟩
theorem Till.phase_aux {I:(Nat→Bool)→Act→World→Prop} {E:List Nat} {l0 l1:Array Bool} {m:Nat} (hc:phaseOk md ops l0 l1 E=true) (hS:∀ d a w,I d a w→S w) (steps:Steps P md ops Q I E)
    (fin:∀ d a w,I d a w→(∀ i ∈ E,d i=true)→Till P md ops Q S k m l1 a w) :
    ∀ (n:Nat) (l:Array Bool) (d:Nat→Bool) (a:Act) (w:World),E.countP (fun j=>!d j)≤n→l.size=ops.size→(∀ j<ops.size,l.getD j false=d j)→(∀ j,j ∉ E→j<ops.size→d j=l0.getD j false)→(∀ j,l0.getD j false=true→d j=true)→I d a w→Till P md ops Q S k (n+m) l a w:=by
  unfold phaseOk at hc
  simp only [Bool.and_eq_true,beq_iff_eq,List.all_eq_true,List.mem_range] at hc
  obtain ⟨⟨hs0,hs1⟩,hall⟩:=hc
  have done:∀ (l:Array Bool) (d:Nat→Bool) (a:Act) (w:World),l.size=ops.size→(∀ j<ops.size,l.getD j false=d j)→(∀ j,j ∉ E→j<ops.size→d j=l0.getD j false)→I d a w→(∀ i ∈ E,d i=true)→Till P md ops Q S k m l a w:=by
    intro l d a w hl hd hout hI hE
    have e:l=l1:=by
      apply Array.ext (hl.trans hs1.symm)
      intro j h1 h2
      have hj:j<ops.size:=by omega
      have e1:=(hall j hj).1
      rw [getD_flag h2] at e1
      have e2:=hd j hj
      rw [getD_flag h1] at e2
      rw [e1,e2]
      by_cases hjE:j ∈ E
      · rw [hE j hjE,List.contains_iff_mem.2 hjE]; rfl
      · rw [hout j hjE hj,show E.contains j=false from by simpa using hjE]; rfl
    rw [e]
    exact fin d a w hI hE
  intro n
  induction n with
  | zero=>
    intro l d a w hn hl hd hout _ hI
    rw [Nat.zero_add]
    refine done l d a w hl hd hout hI fun i hi=>?_
    have h0:E.countP (fun j=>!d j)=0:=by omega
    have:=List.countP_eq_zero.1 h0 i hi
    simpa using this
  | succ n ih=>
    intro l d a w hn hl hd hout hl0 hI
    by_cases hE:∀ i ∈ E,d i=true
    · exact Till.raise (done l d a w hl hd hout hI hE) (n+1)
    have hex:∃ i,i ∈ E∧d i=false:=by
      apply Classical.byContradiction
      intro hno
      refine hE fun i hi=>?_
      cases hdi:d i with
      | true=>rfl
      | false=>exact absurd ⟨i,hi,hdi⟩ hno
    rw [Nat.succ_add]
    refine ⟨fun h0=>?_,fun i hi=>?_⟩
    · -- the least one that has not come up is ready
      exfalso
      have least:∀ b:Nat,∀ i,i<b→i ∈ E→d i=false→False:=by
        intro b
        induction b with
        | zero=>intro i hi; omega
        | succ b ihb=>
          intro i hib hiE hdi
          obtain ⟨o,ho,_⟩:=steps.at_ i hiE
          have his:i<ops.size:=(Array.getElem?_eq_some_iff.1 ho).1
          have hcond:=(hall i his).2
          rw [if_pos (List.contains_iff_mem.2 hiE)] at hcond
          simp only [List.all_eq_true,List.mem_range,Bool.or_eq_true,Bool.not_eq_true',Bool.and_eq_true,decide_eq_true_eq] at hcond
          obtain ⟨hcond,hwi⟩:=hcond
          have hr:i ∈ Region.ready md ops l:=by
            refine mem_ready.2 ⟨by rw [getD_flag (by omega)]; rw [← getD_flag (by omega) false,hd i his,hdi],o,ho,fun e he hb=>?_⟩
            have hw:=waits_on ho he hb
            by_cases hes:e.on<ops.size
            · rw [hd _ hes]
              rcases hcond e.on hes with (h1 | h1) | h1
              · rw [hw] at h1; cases h1
              · exact hl0 _ h1
              · cases hde:d e.on with
                | true=>rfl
                | false=>exact (ihb e.on (by omega) (List.contains_iff_mem.1 h1.1) hde).elim
            · exfalso
              unfold within at hwi
              rw [ho] at hwi
              have:=Array.all_eq_true_iff_forall_mem.1 hwi e he
              exact hes (by simpa using this)
          rw [h0] at hr
          cases hr
      obtain ⟨i,hiE,hdi⟩:=hex
      exact least (i+1) i (by omega) hiE hdi
    · obtain ⟨hi0,o,ho,hafter⟩:=mem_ready.1 hi
      have his:i<ops.size:=(Array.getElem?_eq_some_iff.1 ho).1
      have hdi:d i=false:=by rw [← hd i his,getD_flag (by omega)]; rw [getD_flag (by omega)] at hi0; exact hi0
      have hpre:∀ j,waits md ops i j=true→l.getD j false=true:=waits_of ho hafter
      have hsz:∀ j,l.getD j false=true→j<ops.size:=fun j hj=>by
        rcases Nat.lt_or_ge j l.size with h | h
        · omega
        · simp [Array.getD_eq_getD_getElem?,Array.getElem?_eq_none h] at hj
      have hpd:∀ j,waits md ops i j=true→d j=true:=fun j hj=>by
        have h1:=hpre j hj
        rw [← hd j (hsz j h1)]; exact h1
      by_cases hiE:i ∈ E
      · obtain ⟨o',ho',hstep⟩:=steps.at_ i hiE
        have key:wpOp P ops Q i (I (also d i)) a w:=wpOp_step ho' fun K hK=>hstep d a w hI hdi hpd K hK
        refine wpOp_mono (fun b v hb=>⟨fun _=>hS _ _ _ hb,?_⟩) key
        refine ih (l.setIfInBounds i true) (also d i) b v (by have:=countP_step hiE hdi; omega) (by rw [Array.size_setIfInBounds]; exact hl) (fun j hj=>?_) (fun j hjE hj=>?_) (fun j hj0=>?_) hb
        · unfold also
          split
          · rename_i h; subst h; rw [getD_flag (by rw [Array.size_setIfInBounds]; omega)]; simp
          · rename_i h
            rw [getD_flag (by rw [Array.size_setIfInBounds]; omega),Array.getElem_setIfInBounds_ne (by omega) (Ne.symm h),← hd j hj,getD_flag (by omega)]
        · unfold also
          rw [if_neg (fun h=>hjE (by rw [h]; exact hiE))]
          exact hout j hjE hj
        · unfold also
          split
          · rfl
          · exact hl0 j hj0
      · exfalso
        have hcond:=(hall i his).2
        rw [if_neg (fun h=>hiE (List.contains_iff_mem.1 h))] at hcond
        simp only [List.any_eq_true,List.all_eq_true,List.mem_range,Bool.or_eq_true,Bool.not_eq_true',Bool.and_eq_true] at hcond
        rcases hcond with (h1 | ⟨j,hj,h1,h2⟩) | h1
        · rw [← hout i hiE his,hdi] at h1; cases h1
        · have h3:=hpd j h1
          have h4:=(hall j hj).1
          rw [h2] at h4
          have h5:E.contains j=false∧l0.getD j false=false:=by simpa using h4.symm
          rw [hout j (by simpa using h5.1) hj,h5.2] at h3
          cases h3
        · obtain ⟨i',hi'E,hdi'⟩:=hex
          have h3:=hpd i' (h1 i' hi'E)
          rw [hdi'] at h3
          cases h3
theorem Till.phase (E:List Nat) (l1:Array Bool) (m:Nat) (J:Act→(Nat→Bool)→Act→World→Prop) {l0:Array Bool} {n:Nat} {a0:Act} {w0:World} (hn:n=E.length+m) (hc:phaseOk md ops l0 l1 E=true) (hS:∀ d a w,J a0 d a w→S w)
    (h0:J a0 (fun j=>l0.getD j false) a0 w0) (steps:Steps P md ops Q (J a0) E)
    (fin:∀ d a w,J a0 d a w→(∀ i ∈ E,d i=true)→Till P md ops Q S k m l1 a w):Till P md ops Q S k n l0 a0 w0:=by
  rw [hn]
  have hs:l0.size=ops.size:=by
    unfold phaseOk at hc
    simp only [Bool.and_eq_true,beq_iff_eq] at hc
    exact hc.1.1
  exact Till.phase_aux hc hS steps fin E.length l0 _ a0 w0 List.countP_le_length hs (fun _ _=>rfl) (fun _ _ _=>rfl) (fun _ h=>h) h0
end
def IntAt (w:World) (t:Value) (z:Int):Prop:=∃ (x:Int) (X:Option Addr),t= .agg #[.int .i64 x,.pointer X]∧IsInt 0 w (.agg #[.int .i64 x,.pointer X]) z
theorem IntAt.keep {w w':World} {t:Value} {z:Int} (h:IntAt w t z) (hb:Below w.heap.size w w'):IntAt w' t z:=by
  obtain ⟨x,X,e,hx⟩:=h
  exact ⟨x,X,e,hx.keep hb⟩
def PtrI (b:Nat) (w:World) (t:Value):Prop:=∃ p:Nat,t= .pointer (some ⟨p,0,none⟩)∧b≤p∧Hold w p 0 none
theorem PtrI.keep {b:Nat} {w w':World} {t:Value} (h:PtrI b w t) (hb:Below w.heap.size w w'):PtrI b w' t:=by
  obtain ⟨p,e,hp,hh⟩:=h
  exact ⟨p,e,hp,hh.keep hb⟩
theorem PtrI.ne {b:Nat} {w:World} {t:Value} (h:PtrI b w t):t≠ .pointer (some ⟨w.heap.size,0,none⟩):=by
  obtain ⟨p,rfl,_,hh⟩:=h
  intro e
  have hlt:=hh.lt
  injection e with e
  injection e with e
  injection e with e
  omega
section
variable {P:Program} {md:Region.Mode} {ops:Array Oper} {Q:Exit→Act→World→Prop} {S:World→Prop} {k:Nat}
def Arm (P:Program) (md:Region.Mode) (ops:Array Oper) (Q:Exit→Act→World→Prop) (S:World→Prop) (k n:Nat) (l:Array Bool) (a:Act) (w:World) (i:Nat) (o:Oper):Prop:=
  ∀ K:Act→World→Prop,Shut (∀ b v,((l.setIfInBounds i true).getD k true=false→S v)→Till P md ops Q S k n (l.setIfInBounds i true) b v→K b v)→if Region.wanted o (yielded ops a.tmps)=true then Oper.wp P o a w K Q else K (a.put o.dst undef) w
theorem Arm.op {i:Nat} {o:Oper} {n:Nat} {l:Array Bool} {a:Act} {w:World} (ho:ops[i]?=some o) (h:Arm P md ops Q S k n l a w i o):wpOp P ops Q i (fun b v=>((l.setIfInBounds i true).getD k true=false→S v)∧Till P md ops Q S k n (l.setIfInBounds i true) b v) a w:=
  wpOp_step ho fun K hK=>h K fun b v h1 h2=>hK b v ⟨h1,h2⟩
theorem Till.two {i j:Nat} {o o':Oper} {n:Nat} {l:Array Bool} {a:Act} {w:World} (hr:Region.ready md ops l=[i,j]) (ho:ops[i]?=some o) (ho':ops[j]?=some o')
    (h:Arm P md ops Q S k n l a w i o) (h':Arm P md ops Q S k n l a w j o'):Till P md ops Q S k (n+1) l a w:=by
  refine ⟨fun h0=>absurd (hr.symm.trans h0) (by simp),fun m hm=>?_⟩
  rw [hr] at hm
  rcases List.mem_cons.1 hm with rfl | hm
  · exact h.op ho
  · obtain rfl:=List.mem_singleton.1 hm
    exact h'.op ho'
end
def RatAt (w:World) (t:Value) (q:Rat):Prop:=∃ (a:Int) (P:Option Addr) (b:Int) (Q:Option Addr),t= .agg #[.int .i64 a,.pointer P,.int .i64 b,.pointer Q]∧RatV w a P b Q q
theorem RatAt.keep {w w':World} {t:Value} {q:Rat} (h:RatAt w t q) (hb:Below w.heap.size w w'):RatAt w' t q:=by
  obtain ⟨a,P,b,Q,e,hx⟩:=h
  exact ⟨a,P,b,Q,e,hx.keep hb⟩
def PtrR (b:Nat) (w:World) (t:Value):Prop:=∃ p:Nat,t= .pointer (some ⟨p,0,none⟩)∧b≤p∧Cells w p [.int .i64 0,.pointer none,.int .i64 0,.pointer none]
theorem PtrR.keep {b:Nat} {w w':World} {t:Value} (h:PtrR b w t) (hb:Below w.heap.size w w'):PtrR b w' t:=by
  obtain ⟨p,e,hp,hh⟩:=h
  exact ⟨p,e,hp,hh.keep hb⟩
theorem PtrR.ne {b:Nat} {w:World} {t:Value} (h:PtrR b w t):t≠ .pointer (some ⟨w.heap.size,0,none⟩):=by
  obtain ⟨p,rfl,_,hh⟩:=h
  intro e
  have hlt:=hh.lt
  injection e with e
  injection e with e
  injection e with e
  omega
end Go.Proofs.YtekhdklbfincpaaGreatDoor
