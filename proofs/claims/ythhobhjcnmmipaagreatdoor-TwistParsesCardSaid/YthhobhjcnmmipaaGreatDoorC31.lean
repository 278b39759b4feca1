/- C31: Ph2 Vof FrameZ Tbase -/
import Derived.Test.YthhobhjcnmmipaaGreatDoorC21
import Derived.Test.YthhobhjcnmmipaaGreatDoorC30
import Derived.Test.YthhobhjcnmmipaaGreatDoorC15
import Derived.Test.YthhobhjcnmmipaaGreatDoorCards
import Derived.Test.YthhobhjcnmmipaaGreatDoorTie
import Derived.Test.YthhobhjcnmmipaaGreatDoorC01
import Derived.ProofKit
import Derived.OpenShut
import Derived.Deep.DeepHandedRow
import Derived.Lib.LaidTab
import Derived.Stop.LaidErr
import Derived.Test.YthhobhjcnmmipaaGreatDoorC26
import Derived.Test.YthhobhjcnmmipaaGreatDoorC27
import Derived.Test.YthhobhjcnmmipaaGreatDoorC20
import Derived.Test.YthhobhjcnmmipaaGreatDoorC28
import Derived.Test.YthhobhjcnmmipaaGreatDoorC16
import Derived.Test.YthhobhjcnmmipaaGreatDoorC14
set_option maxRecDepth 100000
set_option maxHeartbeats 16000000
namespace Go.Proofs.YthhobhjcnmmipaaGreatDoor
open Go renaming World→JW
open _root_.Bool renaming and_eq_true→E4
open _root_.Array renaming size_setIfInBounds→E5
open _root_.List renaming all_eq_true→E6,mem_range→E8,range→E9
open Go.Value renaming int→E7
open Go.RowKit
section
variable {P:Program} {md:Region.Mode} {ops:Array Oper} {Q:Exit->Act->JW->Prop} {S:JW->Prop} {k:Nat}
def Ze(md:Region.Mode)(ops:Array Oper)(E:List Nat):Nat->Nat->Nat->Bool
  | 0,j,i=>Qp md ops j i
  | n+1,j,i=>Qp md ops j i || E.any fun e=>Qp md ops j e && Ze md ops E n e i
theorem XH{E:List Nat}{d:Nat->Bool}(hcl:∀i∈E,d i=true->∀j,Qp md ops i j=true->d j=true):∀(n j:Nat),(∀i,Qp md ops j i=true->d i=true)->∀i,Ze md ops E n j i=true->d i=true
  | 0,_,hj,i,h=>hj i h
  | n+1,j,hj,i,h=>by
    unfold Ze at h;rcases Bool.or_eq_true_iff.1 h with h|h
    · exact hj i h
    · obtain⟨e,heE,he⟩:=List.any_eq_true.1 h
      obtain⟨h1,h2⟩:=Bool.and_eq_true_iff.1 he;exact XH hcl n e (hcl e heE (hj e h1)) i h2
def Y6(md:Region.Mode)(ops:Array Oper)(l0 l1:Array Bool)(E:List Nat):Bool:=
  ((l0.size ==ops.size) && (l1.size ==ops.size) && E.all fun i=>!l0.getD i false) &&
  (E9 ops.size).all fun j=>
    (l1.getD j false ==(E.contains j || l0.getD j false)) &&
    (if E.contains j then ((E9 ops.size).all fun i=>!Qp md ops j i || l0.getD i false || (E.contains i && decide (i<j))) && VR ops j
     else l0.getD j false || ((E9 ops.size).any fun i=>Qp md ops j i && !l1.getD i false) || E.all fun i=>Ze md ops E 5 j i)
theorem Till.phase_aux2{I:(Nat->Bool)->Act->JW->Prop}{E:List Nat}{l0 l1:Array Bool}{m:Nat}(hc:Y6 md ops l0 l1 E=true)(hS:∀d a w,I d a w->S w)(steps:UT P md ops Q I E)
    (fin:∀d a w,I d a w->(∀i∈E,d i=true)->Till P md ops Q S k m l1 a w) :
    ∀(n:Nat) (l:Array Bool) (d:Nat->Bool) (a:Act) (w:JW),E.countP (fun j=>!d j)<=n->l.size=ops.size->(∀j<ops.size,l.getD j false=d j)->(∀j,j ∉ E->j<ops.size->d j=l0.getD j false)->(∀j,l0.getD j false=true->d j=true)->(∀i∈E,d i=true->∀j,Qp md ops i j=true->d j=true)->I d a w->Till P md ops Q S k (n+m) l a w:=by
  unfold Y6 at hc;simp only[E4,beq_iff_eq,E6,E8]at hc;obtain⟨⟨⟨hs0,hs1⟩,_⟩,hall⟩:=hc;have done:∀(l:Array Bool) (d:Nat->Bool) (a:Act) (w:JW),l.size=ops.size->(∀j<ops.size,l.getD j false=d j)->(∀j,j ∉ E->j<ops.size->d j=l0.getD j false)->I d a w->(∀i∈E,d i=true)->Till P md ops Q S k m l a w:=by
    intro l d a w hl hd hout hI hE;have e:l=l1:=by
      apply Array.ext (hl.trans hs1.symm);intro j h1 h2;have hj:j<ops.size:=by omega
      have e1:=(hall j hj).1;rw[JL h2]at e1;have e2:=hd j hj;rw[JL h1]at e2;rw[e1,e2];by_cases hjE:j∈E
      · rw[hE j hjE,List.contains_iff_mem.2 hjE];rfl
      · rw[hout j hjE hj,show E.contains j=false from by simpa using hjE];rfl
    rw[e];exact fin d a w hI hE
  intro n
  induction n with
  | zero=>
    intro l d a w hn hl hd hout _ _ hI;rw[Nat.zero_add];refine done l d a w hl hd hout hI fun i hi=>?_;have h0:E.countP (fun j=>!d j)=0:=by omega
    have:=List.countP_eq_zero.1 h0 i hi;simpa using this
  | succ n ih=>
    intro l d a w hn hl hd hout hl0 hcl hI;by_cases hE:∀i∈E,d i=true
    · exact Till.raise (done l d a w hl hd hout hI hE) (n+1)
    have hex:∃i,i∈E/\d i=false:=by
      apply Classical.byContradiction;intro hno;refine hE fun i hi=>?_;cases hdi:d i with
      | true=>rfl
      | false=>exact absurd ⟨i,hi,hdi⟩ hno
    rw[Nat.succ_add];refine⟨fun h0=>?_,fun i hi=>?_⟩
    · -- the least one that has not come up is ready
      exfalso;have least:∀b:Nat,∀i,i<b->i∈E->d i=false->False:=by
        intro b
        induction b with
        | zero=>intro i hi;omega
        | succ b ihb=>
          intro i hib hiE hdi;obtain⟨o,ho,_⟩:=steps.at_ i hiE;have his:i<ops.size:=(Array.getElem?_eq_some_iff.1 ho).1;have hcond:=(hall i his).2;rw[if_pos (List.contains_iff_mem.2 hiE)]at hcond;simp only[E6,E8,Bool.or_eq_true,Bool.not_eq_true',E4,decide_eq_true_eq]at hcond;obtain⟨hcond,hwi⟩:=hcond;have hr:i∈Region.ready md ops l:=by
            refine mem_ready.2 ⟨by rw[JL (by omega)];rw[←JL (by omega) false,hd i his,hdi],o,ho,fun e he hb=>?_⟩;have hw:=GI ho he hb;by_cases hes:e.on<ops.size
            · rw[hd _ hes]
              rcases hcond e.on hes with(h1|h1)|h1
              · rw[hw]at h1;cases h1
              · exact hl0 _ h1
              · cases hde:d e.on with
                | true=>rfl
                | false=>exact(ihb e.on (by omega) (List.contains_iff_mem.1 h1.1) hde).elim
            · exfalso
              unfold VR at hwi;rw[ho]at hwi;have:=Array.all_eq_true_iff_forall_mem.1 hwi e he;exact hes (by simpa using this)
          rw[h0]at hr;cases hr
      obtain⟨i,hiE,hdi⟩:=hex;exact least (i+1) i (by omega) hiE hdi
    · obtain⟨hi0,o,ho,hafter⟩:=mem_ready.1 hi
      have his:i<ops.size:=(Array.getElem?_eq_some_iff.1 ho).1;have hdi:d i=false:=by rw[←hd i his,JL (by omega)];rw[JL (by omega)]at hi0;exact hi0
      have hpre:∀j,Qp md ops i j=true->l.getD j false=true:=GJ ho hafter;have hsz:∀j,l.getD j false=true->j<ops.size:=fun j hj=>by
        rcases Nat.lt_or_ge j l.size with h|h
        · omega
        · simp[Array.getD_eq_getD_getElem?,Array.getElem?_eq_none h]at hj
      have hpd:∀j,Qp md ops i j=true->d j=true:=fun j hj=>by
        have h1:=hpre j hj;rw[←hd j (hsz j h1)];exact h1
      by_cases hiE:i∈E
      · obtain⟨o',ho',hstep⟩:=steps.at_ i hiE
        have key:wpOp P ops Q i (I (also d i)) a w:=wpOp_step ho' fun K hK=>hstep d a w hI hdi hpd K hK;refine wpOp_mono (fun b v hb=>⟨fun _=>hS _ _ _ hb,?_⟩) key;refine ih (l.setIfInBounds i true) (also d i) b v (by have:=Xi hiE hdi;omega) (by rw[E5];exact hl) (fun j hj=>?_) (fun j hjE hj=>?_) (fun j hj0=>?_) (fun e heE hde j hj=>?_) hb
        · unfold also
          split
          · rename_i h;subst h;rw[JL (by rw[E5];omega)];simp
          · rename_i h
            rw[JL (by rw[E5];omega),Array.getElem_setIfInBounds_ne (by omega) (Ne.symm h),←hd j hj,JL (by omega)]
        · unfold also
          rw[if_neg (fun h=>hjE (by rw[h];exact hiE))];exact hout j hjE hj
        · unfold also
          split
          · rfl
          · exact hl0 j hj0
        · have h2:d j=true:=by
            by_cases he:e=i
            · subst he;exact hpd j hj
            · exact hcl e heE (by unfold also at hde;rw[if_neg he]at hde;exact hde) j hj
          unfold also
          split
          · rfl
          · exact h2
      · exfalso
        have hcond:=(hall i his).2;rw[if_neg (fun h=>hiE (List.contains_iff_mem.1 h))]at hcond;simp only[List.any_eq_true,E6,E8,Bool.or_eq_true,Bool.not_eq_true',E4]at hcond;rcases hcond with(h1|⟨j,hj,h1,h2⟩)|h1
        · rw[←hout i hiE his,hdi]at h1;cases h1
        · have h3:=hpd j h1
          have h4:=(hall j hj).1;rw[h2]at h4;have h5:E.contains j=false/\l0.getD j false=false:=by simpa using h4.symm
          rw[hout j (by simpa using h5.1) hj,h5.2]at h3;cases h3
        · obtain⟨i',hi'E,hdi'⟩:=hex
          have h3:=XH hcl _ i hpd i' (h1 i' hi'E);rw[hdi']at h3;cases h3
theorem Till.phase2(E:List Nat)(l1:Array Bool)(m:Nat)(J:Act->(Nat->Bool)->Act->JW->Prop){l0:Array Bool}{n:Nat}{a0:Act}{w0:JW}(hn:n=E.length+m)(hc:Y6 md ops l0 l1 E=true)(hS:∀d a w,J a0 d a w->S w)
    (h0:J a0 (fun j=>l0.getD j false) a0 w0) (steps:UT P md ops Q (J a0) E)
    (fin:∀d a w,J a0 d a w->(∀i∈E,d i=true)->Till P md ops Q S k m l1 a w):Till P md ops Q S k n l0 a0 w0:=by
  rw[hn];have hs:l0.size=ops.size:=by
    unfold Y6 at hc;simp only[E4,beq_iff_eq]at hc;exact hc.1.1.1
  have hd0:∀i∈E,l0.getD i false=false:=by
    unfold Y6 at hc;simp only[E4,E6]at hc;intro i hi;have:=hc.1.2 i hi;simpa using this
  exact Till.phase_aux2 hc hS steps fin E.length l0 _ a0 w0 List.countP_le_length hs (fun _ _=>rfl) (fun _ _ _=>rfl) (fun _ h=>h) (fun i hi h=>by have:=hd0 i hi;rw[this]at h;cases h) h0
end
open Go.ChangeShapes Go.WideShapes Go.ChangeAt
theorem own:ownKnob Tryz.prog.godebug=none:=by kernel_rfl
theorem g64:Tryz.prog.globalNamed "math/bits.deBruijn64tab"=some 0:=by kernel_rfl
theorem KY:(Tryz.prog.globals[0]?).map (·.type)=some 219:=by kernel_rfl
theorem KZ:(Tryz.prog.globals[6]?).map (·.type)=some 242:=by kernel_rfl
theorem Eh:Tryz.prog.cellsOf 219=64:=by kernel_rfl
theorem Ei:Tryz.prog.cellsOf 242=20:=by kernel_rfl
theorem Eg:Tryz.prog.cellsOf 5=1:=by kernel_rfl
theorem Kq:Tryz.prog.cellsOf 154=1:=by kernel_rfl
abbrev list:List (String × DataW Unit):=[("math/bits.deBruijn32tab",Rows.laid_math_bits_deBruijn32tab),("math/bits.deBruijn64tab",Rows.laid_math_bits_deBruijn64tab),("internal/strconv.uint64pow10",Rows.laid_internal_strconv_uint64pow10),("unicode/utf8.acceptRanges",Rows.laid_unicode_utf8_acceptRanges),("unicode/utf8.first",Rows.laid_unicode_utf8_first)]
theorem EE:(Rows.laid_math_bits_deBruijn64tab:DataW Unit)=Lib.tabData .u8 (Lib.deBruijn64tab.map Int.ofNat):=by kernel_rfl
theorem EF:(Rows.laid_internal_strconv_uint64pow10:DataW Unit)=Lib.tabData .u64 Lib.pow10Tab:=by kernel_rfl
theorem good{W:JW}(h:laidMet Tryz.prog list W):Good W:=by
 have h1:=laidMet.tail h;have h2:=laidMet.tail h1;rw[EE]at h1;rw[EF]at h2;have t1:=Lib.tabIs_of_head g64 KY Tryz.underlying219 Tryz.underlying5 Eg Eh h1;have t2:=Lib.tabIs_of_head gTab KZ Tryz.underlying242 Tryz.underlying154 Kq Ei h2;refine⟨t2,fun j hj=>?_⟩;have:=t1.cell g64 j (by simpa using hj);rw[show Tryz.lays7n29_ren.g 1=0 from rfl,this]
 congr 2
 simp[List.getD,hj]
def Frame.setBlk(w:JW)(g:Nat)(cs:Array Value):JW:=
 { w with heap:=w.heap.modify g fun
   | .cells _ t frozen=> .cells cs t frozen
   | o=>o }
def Frame.accept:Array Value:=((#[128,191,160,191,128,159,144,191,128,143]:Array Int) ++ Array.replicate 22 (0:Int)).map fun n=>E7 .u8 n
def Frame.first:Array Value:=(Pinned.utf8FirstZ.map fun n=>E7 .u8 (Int.ofNat n)).toArray
noncomputable def Frame.laidWorld (os:Os):JW:=
 Frame.setBlk (Frame.setBlk (Frame.setBlk (Frame.setBlk (Frame.setBlk (World.holding Tryz.prog os ⟨#[],#[],[]⟩) 0 (Lib.deBruijn64tab.map fun n=>E7 .u8 (Int.ofNat n)).toArray)
  7 (Lib.deBruijn32tab.map fun n=>E7 .u8 (Int.ofNat n)).toArray) 6 (Lib.pow10Tab.map fun n=>E7 .u64 n).toArray)
  5 Frame.accept) 4 Frame.first
