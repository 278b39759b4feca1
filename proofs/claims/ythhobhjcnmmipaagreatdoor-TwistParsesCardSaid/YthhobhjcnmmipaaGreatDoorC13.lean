/- C13: DivW -/
import Derived.Test.YthhobhjcnmmipaaGreatDoorC07
import Derived.Deep.RegionWith
import Derived.Deep.RegionHeld3
import Derived.Test.YthhobhjcnmmipaaGreatDoorC09
import Derived.Test.YthhobhjcnmmipaaGreatDoorC02
set_option maxRecDepth 100000
set_option maxHeartbeats 16000000
namespace Go.Proofs.YthhobhjcnmmipaaGreatDoor
open Go.Value renaming pointer→Jp,int→Ji,agg→Ja
open Go.IntKind renaming i64→Jl
open Go.Obj renaming cells→Jc
open _root_.Option renaming none→Jn,some→Jo
open Go renaming World→JW
open Go.RowKit.Below renaming refl→E4,setCell→EY,heap_setCell→Fb
open Go.Act renaming put→E5
open _root_.Nat renaming lt_of_le_of_lt→E6,le_refl→E7,div_le_self→E9
open Go.Region renaming ready→E8,wanted→Fa,Mode→Fc
open Go.World renaming cell?_of_block→EZ,size_alloc→Fe
open _root_.Array renaming getD_eq_getD_getElem?→F0
open Go.RowKit

theorem VX(a b:Int)(P Q:Option Addr)(z k:Int)(w:JW)(h:Jj 0 w (Ja #[Ji Jl a,Jp P]) z)(h':Jj 0 w (Ja #[Ji Jl b,Jp Q]) k)(hlz:z.natAbs<base 400)(hlk:k.natAbs<base 400) :
    Calls Tryz.prog 117 #[Ja #[Ji Jl a,Jp P],Ja #[Ji Jl b,Jp Q]] w (Qb (z-k) w):=by
  have Hn:=Lh (fun w' (hb:Below w.heap.size w w')=>Uo b Q k w' (h'.keep hb));have Ha:=Lh (fun w' b' Q' (hb:Below w.heap.size w w') (hi:Jj 0 w' (Ja #[Ji Jl b',Jp Q']) (-k))=>(UR a b' P Q' z (-k) w' (h.keep hb) hi hlz (by omega)).mono (fun e w2 k2=>k2.cast (show z+-k=z-k by omega)));have kk:=((((E4 w.heap.size w).alloc (E7 _) (Jc #[Ji Jl a,Jp P] 29)).alloc (by simp) (Jc #[Ji Jl b,Jp Q] 29)).alloc (by simp;omega) (Jc #[Ji Jl 0,Jp Jn] 29)).drew;have Hr:=Lh (Res.new ((w.alloc (Jc #[Ji Jl a,Jp P] 29)).alloc (Jc #[Ji Jl b,Jp Q] 29)));simp only[Fe]at Hr;have Kk:=Lh kk;clear h h' hlz hlk kk;go_enter Tryz.func117,Tryz.ntmps117;go_wp2_with fail
  go_region_with (first
    | (go_at_call 88; refine (Hn.out _ Kk.out).mono ?_; rintro e w1 ⟨b',Q',rfl,hi1,h1⟩
       have c0:=(h1.cell (p:=⟨w.heap.size,0,Jn⟩) (by simp;omega)).trans (show _=Jo (Ji Jl a)by simp[go_sem]);have c1:=(h1.cell (p:=⟨w.heap.size,1,Jn⟩) (by simp;omega)).trans (show _=Jo (Jp P)by simp[go_sem]);have R1:=Res.keep (w:=World.drew _) ⟨Hr.out.at_⟩ h1;have K1:=Jd Kk.out h1)
    | (go_at_call 100; refine (Ha.out _ _ _ K1 hi1).mono ?_; rintro e w2 ⟨a3,P3,rfl,hi2,h2⟩
       have R2:=R1.keep h2;have k0:=R2.k0;have k1:=R2.k1;have f0:=R2.f0;have f1:=R2.f1))
  all_goals
    have Hi5:=Lh (hi2.stored R2 (Ji Jl a3) (Jp P3));have K5:=Lh (Jg (Jd K1 h2) (show w.heap.size<=w.heap.size+1+1 by omega) (Ji Jl a3) (Jp P3));clear hi1 h1 K1 R1 hi2 h2 R2;go_wp2;exact bodyPost_ret (v:=Ja #[Ji Jl a3,Jp P3]) (by simp[results,Tryz.results117,go_sem,k0,k1]) rfl ⟨a3,P3,rfl,Hi5.out,K5.out⟩
section
variable {P:Program} {md:Fc} {ops:Array Oper} {Q:Exit->Act->JW->Prop} {S:JW->Prop} {k:Nat}
def Till(P:Program)(md:Fc)(ops:Array Oper)(Q:Exit->Act->JW->Prop)(S:JW->Prop)(k:Nat):Nat->Array Bool->Act->JW->Prop
  | 0,l,a,w=>E8 md ops l=[]/\Q .normal a w
  | n+1,l,a,w=>(E8 md ops l=[]->Q .normal a w)/\∀i∈E8 md ops l,wpOp P ops Q i (fun b v=>((l.setIfInBounds i true).getD k true=false->S v)/\Till P md ops Q S k n (l.setIfInBounds i true) b v) a w
theorem Till.any:∀(n:Nat) (l:Array Bool) (a:Act) (w:JW),Till P md ops Q S k n l a w->wpAny P md ops Q n l a w
  | 0,_,_,_,h=>h
  | n+1,_,_,_,h=>⟨h.1,fun i hi=>wpOp_mono (fun b v hb=>Till.any n _ b v hb.2) (h.2 i hi)⟩
def Qp(md:Fc)(ops:Array Oper)(k i:Nat):Bool:=
  match ops[k]? with
  | some o=>o.after.any fun e=>Region.binds md e && e.on ==i
  | none=>false
theorem Till.first{i:Nat}{oi:Oper}{u:Value}(hi:ops[i]?=Jo oi)(hs:Region.noSelect ops=true)(hQ:∀c a w,Q (.panic c) (a.put oi.dst u) w->Q (.panic c) a w){m:Nat}(hm:Qp md ops m i=true)(hmk:m=k\/Qp md ops k m=true)(hik:i≠k)(him:i≠m)(n:Nat) :
    ∀(l:Array Bool) (a:Act) (w:JW),l.getD m true=false->(∀j oj,ops[j]?=Jo oj->j≠i->l.getD j true=false->(∀e∈oj.after,Region.binds md e=true->e.on≠i)->oi.apart ops oj=true) ->
      i∈E8 md ops l->l.getD k true=false->YieldsIf P ops S oi u a->S w->Till P md ops Q S k n (l.setIfInBounds i true) (a.put oi.dst u) w->Till P md ops Q S k (n+1) l a w:=by
  induction n with
  | zero=>
    intro l a w _ _ hr _ hy hS H;refine⟨fun h0=>absurd hr (by rw[h0];simp),fun j hj=>?_⟩;rcases Nat.decEq j i with hne|heq
    · have:=ready_mono hj hne
      rw[H.1]at this;cases this
    · subst heq
      exact hy.wpOp hi hS ⟨fun _=>hS,H⟩
  | succ n ih=>
    intro l a w hml0 hfree hr hkl hy hS H;have hi0:=(mem_ready.1 hr).1;refine⟨fun h0=>absurd hr (by rw[h0];simp),fun j hj=>?_⟩;rcases Nat.decEq j i with hne|heq
    · obtain⟨hj0,oj,hoj,hafter⟩:=mem_ready.1 hj
      have open_:∀m':Nat,l.getD m' true=false->∀e∈oj.after,Region.binds md e=true->e.on≠m':=by
        intro m' hm0 e he hb h1;have h2:=hafter e he hb;rw[h1]at h2;cases hl:l[m']? with
        | none=>simp[F0,hl]at h2
        | some t=>simp[F0,hl]at h2 hm0;rw[h2]at hm0;cases hm0
      have hnone:=open_ i hi0;have apart:∀k' m':Nat,l.getD m' true=false->Qp md ops k' m'=true->j≠k':=by
        intro k' m' hm0 hw h1;subst h1;unfold Qp at hw;rw[hoj]at hw;obtain⟨e,he,h2⟩:=Array.any_eq_true'.1 hw;simp only[Bool.and_eq_true,beq_iff_eq]at h2;exact open_ m' hm0 e he h2.1 h2.2
      have hjm:j≠m:=apart m i hi0 hm;have hjk:j≠k:=by
        rcases hmk with h1|h1
        · rw[←h1];exact hjm
        · exact apart k m hml0 h1
      have hkl2:(l.setIfInBounds j true).getD k true=false:=by rw[getD_set_ne true hjk];exact hkl
      have step:=wpOp_putIf hoj (hfree j oj hoj hne hj0 hnone) (fun cs b=>Region.noSelect_spec hs i oi cs b hi) (fun cs b=>Region.noSelect_spec hs j oj cs b hoj) hQ hy (H.2 j (ready_mono hj hne));refine wpOp_mono (fun b v hb=>?_) step;have hSv:S v:=hb.2.1 (by rw[getD_set_ne true hjk,getD_set_ne true hik];exact hkl);refine⟨fun _=>hSv,ih (l.setIfInBounds j true) b v (by rw[getD_set_ne true hjm];exact hml0) (fun m om hm hmi hml hmn=>hfree m om hm hmi ?_ hmn) (ready_mono hr (Ne.symm hne)) hkl2 hb.1 hSv ?_⟩
      · rcases Nat.decEq j m with h1|h1
        · rwa [getD_set_ne true h1]at hml
        · subst h1;exact hj0
      · rw[Array.setIfInBounds_comm _ _ hne]
        exact hb.2.2
    · subst heq
      exact hy.wpOp hi hS ⟨fun _=>hS,H⟩
theorem Till.take{i m:Nat}{oi:Oper}{d:Option Tmp}{u:Value}{n:Nat}{l:Array Bool}{a:Act}{w:JW}(hi:ops[i]?=Jo oi)(hd:oi.dst=d)(hs:Region.noSelect ops=true)(hf:Region.free md ops l i=true)(hr:(E8 md ops l).contains i=true)(hm:Qp md ops m i=true)(hmk:(m ==k || Qp md ops k m)=true)(hik:(i ==k || i ==m)=false)(hkl:(l.getD k true || l.getD m true)=false)
    (hQ:∀c a w,Q (.panic c) (a.put d u) w->Q (.panic c) a w) (hw:Fa oi (yielded ops a.tmps)=true) (hy:∀w,S w->(execOp a.eval oi).run P w= .ok (.value u) w) (hS:S w) (h:Till P md ops Q S k n (l.setIfInBounds i true) (a.put d u) w):Till P md ops Q S k (n+1) l a w:=by
  subst hd;rw[Bool.or_eq_false_iff]at hkl hik;exact Till.first hi hs hQ hm (by simpa using hmk) (by simpa using hik.1) (by simpa using hik.2) n l a w hkl.2 (Region.free_spec hi hf) (by simpa using hr) hkl.1 (Or.inl ⟨hw,hy⟩) hS h
theorem Till.tk(i m:Nat)(d:Tmp)(u:Value){oi:Oper}{n:Nat}{l:Array Bool}{a:Act}{w:JW}(hS:S w)(h:Till P md ops Q S k n (l.setIfInBounds i true) (a.put (Jo d) u) w)(hi:ops[i]?=Jo oi:=by exact rfl)(hd:oi.dst=Jo d:=by exact rfl)(hs:Region.noSelect ops=true:=by kernel_rfl)(hf:Region.free md ops l i=true:=by kernel_rfl)(hr:(E8 md ops l).contains i=true:=by kernel_rfl)(hm:Qp md ops m i=true:=by kernel_rfl)(hmk:(m ==k || Qp md ops k m)=true:=by kernel_rfl)(hik:(i ==k || i ==m)=false:=by kernel_rfl)(hkl:(l.getD k true || l.getD m true)=false:=by kernel_rfl)
    (hQ:∀c a w,Q (.panic c) (a.put (Jo d) u) w->Q (.panic c) a w:=by exact fun _ _ _ h=>h) (hw:Fa oi (yielded ops a.tmps)=true:=by kernel_rfl) (hy:∀w,S w->(execOp a.eval oi).run P w= .ok (.value u) w:=by(intro w hSw;(try dsimp only at hSw);go_split_ands;go_simp)):Till P md ops Q S k (n+1) l a w:=
  Till.take hi hd hs hf hr hm hmk hik hkl hQ hw hy hS h
theorem Till.one{i:Nat}{o:Oper}{n:Nat}{l:Array Bool}{a:Act}{w:JW}(hr:E8 md ops l=[i])(ho:ops[i]?=Jo o)
    (h:∀K:Act->JW->Prop,Shut (∀b v,((l.setIfInBounds i true).getD k true=false->S v)->Till P md ops Q S k n (l.setIfInBounds i true) b v->K b v)->if Fa o (yielded ops a.tmps)=true then Oper.wp P o a w K Q else K (a.put o.dst undef) w):Till P md ops Q S k (n+1) l a w:=by
  refine⟨fun h0=>absurd (hr.symm.trans h0) (by simp),fun j hj=>?_⟩;rw[hr]at hj;obtain rfl:j=i:=by simpa using hj
  exact wpOp_step ho fun K hK=>h K fun b v h1 h2=>hK b v ⟨h1,h2⟩
theorem Till.done{l:Array Bool}{a:Act}{w:JW}(hr:E8 md ops l=[])(h:Q .normal a w):∀n,Till P md ops Q S k n l a w
  | 0=>⟨hr,h⟩
  | _+1=>⟨fun _=>h,by rw[hr];simp⟩
theorem Till.begin{id:Nat}{a:Act}{w:JW}(k:Nat)(S:JW->Prop)(hm:P.follows .mixedOrders=true)(hS:S w.drew)(h:S w.drew->Till P .any ops Q S k ops.size (Array.replicate ops.size false) a w.drew):(Code.region id ops true).wp P Q a w:=
  wp_region_any hm (Till.any _ _ _ _ (h hS))
end
theorem Hold.other{w:JW}{q:Nat}{b:Int}{Q:Option Addr}(h:Hold w q b Q){p:Nat}(hp:q≠p)(x y:Value):Hold ((w.setCell ⟨p,0,Jn⟩ x).setCell ⟨p,1,Jn⟩ y) q b Q:=by
  have hb:((w.setCell ⟨p,0,Jn⟩ x).setCell ⟨p,1,Jn⟩ y).heap[q]?=w.heap[q]?:=(Fb (w.setCell ⟨p,0,Jn⟩ x) ⟨p,1,Jn⟩ y q hp).trans (Fb w ⟨p,0,Jn⟩ x q hp);exact⟨(EZ hb).trans h.c0,(EZ hb).trans h.c1,fun k=>(EZ hb).trans (h.cn k),(World.frozen?_of_block hb).trans h.f0,(World.frozen?_of_block hb).trans h.f1,by simpa[World.setCell]using h.lt⟩
theorem Var.grow{w:JW}{p:Nat}{a:Int}{P:Option Addr}{z:Int}(h:Var w p a P z)(o:Obj):Var (w.alloc o) p a P z:=h.keep ((E4 _ _).alloc (E7 _) o)
theorem Hold.grow{w:JW}{p:Nat}{a:Int}{P:Option Addr}(h:Hold w p a P)(o:Obj):Hold (w.alloc o) p a P:=h.keep ((E4 _ _).alloc (E7 _) o)
def UX(z k:Int)(w:JW)(e:Ending)(w':JW):Prop:=
  ∃(a:Int) (P:Option Addr) (b:Int) (Q:Option Addr) (q r:Int),e= .returned (.tuple #[Ja #[Ji Jl a,Jp P],Ja #[Ji Jl b,Jp Q],Ji Jl 0])/\Jj 0 w' (Ja #[Ji Jl a,Jp P]) q/\Jj 0 w' (Ja #[Ji Jl b,Jp Q]) r/\DM z k q r/\Below w.heap.size w w'
theorem X9{w w7 v:JW}{qa ra b k:Int}{qP rP pb:Option Addr}(hq:Hold w7 (w.heap.size+2) qa qP)(hr:Hold w7 (w.heap.size+3) ra rP)(hv:Var w7 (w.heap.size+1) b pb k)(hb:Below w7.heap.size w7 v) :
    v.cell? ⟨w.heap.size+2,0,Jn⟩=Jo (Ji Jl qa)/\v.cell? ⟨w.heap.size+2,1,Jn⟩=Jo (Jp qP)/\v.cell? ⟨w.heap.size+3,0,Jn⟩=Jo (Ji Jl ra)/\v.cell? ⟨w.heap.size+3,1,Jn⟩=Jo (Jp rP)/\v.cell? ⟨w.heap.size+1,0,Jn⟩=Jo (Ji Jl b)/\v.cell? ⟨w.heap.size+1,1,Jn⟩=Jo (Jp pb):=
  ⟨(hq.keep hb).c0,(hq.keep hb).c1,(hr.keep hb).c0,(hr.keep hb).c1,(hv.keep hb).c0,(hv.keep hb).c1⟩
theorem Uq{w:JW}{a b z k:Int}{P Q:Option Addr}(h:Jj 0 w (Ja #[Ji Jl a,Jp P]) z)(h':Jj 0 w (Ja #[Ji Jl b,Jp Q]) k){w0:JW}
    (e:w0=(((w.alloc (Jc #[Ji Jl a,Jp P] 29)).alloc (Jc #[Ji Jl b,Jp Q] 29)).alloc (Jc #[Ji Jl 0,Jp Jn] 29)).alloc (Jc #[Ji Jl 0,Jp Jn] 29)) :
    Var w0 w.heap.size a P z/\Var w0 (w.heap.size+1) b Q k/\Hold w0 (w.heap.size+2) 0 Jn/\Hold w0 (w.heap.size+3) 0 Jn/\Below w.heap.size w w0:=by
  subst e;have k1:=(E4 w.heap.size w).alloc (E7 _) (Jc #[Ji Jl a,Jp P] 29);have v1:=Var.new h;have v2:=Var.new (h'.keep k1);have q1:=Hold.new ((w.alloc (Jc #[Ji Jl a,Jp P] 29)).alloc (Jc #[Ji Jl b,Jp Q] 29)) 0 Jn;have q2:=Hold.new (((w.alloc (Jc #[Ji Jl a,Jp P] 29)).alloc (Jc #[Ji Jl b,Jp Q] 29)).alloc (Jc #[Ji Jl 0,Jp Jn] 29)) 0 Jn;simp only[Fe]at v2 q1 q2;exact⟨((v1.grow _).grow _).grow _,(v2.grow _).grow _,q1.grow _,q2,((k1.alloc (by simp) _).alloc (by simp;omega) _).alloc (by simp;omega) _⟩
theorem Gt(b:Int)(p:Nat)(Q:Option Addr)(z k:Int)(w:JW)(h:Jj 0 w (Ja #[Ji Jl 0,Jp (Jo ⟨p,0,Jn⟩)]) z)(h':Jj 0 w (Ja #[Ji Jl b,Jp Q]) k)(hk0:k≠0)(hlz:z.natAbs<base 390)(hlk:k.natAbs<base 390) :
    Calls Tryz.prog 86 #[Ja #[Ji Jl 0,Jp (Jo ⟨p,0,Jn⟩)],Ja #[Ji Jl b,Jp Q]] w (UX z k w):=by
  obtain⟨bz,hbz⟩:∃bz,decide (z<0)=bz:=⟨_,rfl⟩;obtain⟨bk,hbk⟩:∃bk,decide (k<0)=bk:=⟨_,rfl⟩;obtain⟨w0,hw0⟩:∃w0,w0=(((w.alloc (Jc #[Ji Jl 0,Jp (Jo ⟨p,0,Jn⟩)] 29)).alloc (Jc #[Ji Jl b,Jp Q] 29)).alloc (Jc #[Ji Jl 0,Jp Jn] 29)).alloc (Jc #[Ji Jl 0,Jp Jn] 29):=⟨_,rfl⟩;obtain⟨va,vb,hq,hr,kk⟩:=Uq h h' hw0;have VA:=Lh va;have VB:=Lh vb;have HQ:=Lh hq;have HR:=Lh hr;have KK:=Lh kk;have hsgn:sgn k≠0:=by unfold sgn;split <;> (try split) <;> omega
  obtain⟨x,hx⟩:∃x,sgn k=x:=⟨_,rfl⟩;have Hs:=Lh (QA _ k w0 vb.int);rw[hx]at Hs hsgn;have t0:(x ==0)=false:=by rw[beq_eq_false_iff_ne];exact hsgn
  have Hbz:=Lh hbz;have Hbk:=Lh hbk;have Hlz:=Lh hlz;have Hlk:=Lh hlk;have Hk0:=Lh hk0;have hm0:0<k.natAbs:=by omega
  have Hm0:=Lh hm0;rw[hw0]at Hs;have Hw0:=Lh hw0;clear h h' hbz hbk va vb hq hr kk hw0 hx hsgn hlz hlk hk0 hm0;go_enter Tryz.func86,Tryz.ntmps86;go_wp2_with fail
  refine Hs.out.mono ?_;rintro e w1⟨rfl,h1⟩;rw[←Hw0.out]at h1;have VA1:=Lh (VA.out.keep h1);have VB1:=Lh (VB.out.keep h1);have HQ1:=Lh (HQ.out.keep h1);have HR1:=Lh (HR.out.keep h1);have K1:=Lh (Jd KK.out h1);have va0:=VA1.out.c0;have va1:=VA1.out.c1;have vb0:=VB1.out.c0;have vb1:=VB1.out.c1;have Hpa:=Lh (JF _ z w1 bz Hbz.out VA1.out.int);clear h1;go_wp2_with fail
  refine Hpa.out.mono ?_;rintro e w2⟨A,n,c,xs,rfl,hx,h2⟩;have VB2:=Lh (VB1.out.keep h2);have HQ2:=Lh (HQ1.out.keep h2);have HR2:=Lh (HR1.out.keep h2);have K2:=Lh (Jd K1.out h2);have Hx:=Lh hx;have Hpb:=Lh (JF _ k w2 bk Hbk.out VB2.out.int);clear va0 va1 vb0 vb1 h2 hx t0;have vb0:=VB2.out.c0;have vb1:=VB2.out.c1;go_wp2_with fail
  refine Hpb.out.mono ?_;rintro e w3⟨A',n',c',ys,rfl,hy,h3⟩;have VB3:=Lh (VB2.out.keep h3);have HQ3:=Lh (HQ2.out.keep h3);have HR3:=Lh (HR2.out.keep h3);have K3:=Lh (Jd K2.out h3);have Hdn:=Lh (Ys w3 (Hx.out.keep h3) hy Hm0.out (by have:=Hx.out.len_le Hlz.out;omega));clear vb0 vb1 h3 hy;go_wp2_with fail
  refine Hdn.out.mono ?_;rintro e w4⟨A1,n1,c1,zs,A2,n2,c2,us,rfl,hq,hr,h4⟩;have VB4:=Lh (VB3.out.keep h4);have HQ4:=Lh (HQ3.out.keep h4);have HR4:=Lh (HR3.out.keep h4);have K4:=Lh (Jd K3.out h4);have Hr4:=Lh hr;obtain⟨sb,hsb⟩:∃sb,(!(bz ==bk))=sb:=⟨_,rfl⟩;have Hsb:=Lh (show(bz !=bk)=sb from hsb);have hn2:=hr.len;have Hn2:=Lh hr.zero_iff;have Hs1:=Lh (JD sb (Jx sb (z.natAbs/k.natAbs)) w4 hq rfl);clear h4 hq hr;go_wp2_with fail
  refine Hs1.out.mono ?_;rintro e w5⟨qa,qP,rfl,hi5,h5⟩;have VB5:=Lh (VB4.out.keep h5);have HQ5:=Lh (HQ4.out.keep h5);have HR5:=Lh (HR4.out.keep h5);have K5:=Lh (Jd K4.out h5);have Hi5:=Lh hi5;have Hs2:=Lh (JD bz (Jx bz (z.natAbs%k.natAbs)) w5 (Hr4.out.keep h5) rfl);clear h5 hi5;go_wp2_with fail
  refine Hs2.out.mono ?_;rintro e w6⟨ra,rP,rfl,hi6,h6⟩;have VB6:=Lh (VB5.out.keep h6);have HQ6:=Lh (HQ5.out.keep h6);have HR6:=Lh (HR5.out.keep h6);have K6:=Lh (Jd K5.out h6);obtain⟨w7,hw7⟩:∃w7,((((w6.setCell ⟨w.heap.size+2,0,Jn⟩ (Ji Jl qa)).setCell ⟨w.heap.size+2,1,Jn⟩ (Jp qP)).setCell ⟨w.heap.size+3,0,Jn⟩ (Ji Jl ra)).setCell ⟨w.heap.size+3,1,Jn⟩ (Jp rP))=w7:=⟨_,rfl⟩;have hr6:=HR6.out.other (p:=w.heap.size+2) (by omega) (Ji Jl qa) (Jp qP);have hq6:=HQ6.out.store qa qP;have HQ7:=Lh (show Hold w7 (w.heap.size+2) qa qP by rw[←hw7];exact hq6.other (by omega) _ _);have HR7:=Lh (show Hold w7 (w.heap.size+3) ra rP by rw[←hw7];exact hr6.store ra rP);have VB7:=Lh (show Var w7 (w.heap.size+1) b Q k by rw[←hw7];exact(VB6.out.held HQ6.out (by omega) _ _).held hr6 (by omega) _ _);have I1:=Lh (show Jj 0 w7 (Ja #[Ji Jl qa,Jp qP]) (Jx sb (z.natAbs/k.natAbs))by rw[←hw7];exact((Hi5.out.keep h6).held HQ6.out _ _).held hr6 _ _);have I2:=Lh (show Jj 0 w7 (Ja #[Ji Jl ra,Jp rP]) (Jx bz (z.natAbs%k.natAbs))by rw[←hw7];exact(hi6.held HQ6.out _ _).held hr6 _ _);have K7:=Lh (show Below w.heap.size w w7 by rw[←hw7];exact Jg (Jg K6.out (by omega) _ _) (by omega) _ _);have f0:=HQ6.out.f0;have f1:=HQ6.out.f1;have g0:=HR6.out.f0;have g1:=HR6.out.f1;have i0:=HQ6.out.c0;have i1:=HQ6.out.c1;have j0:=HR6.out.c0;have j1:=HR6.out.c1;clear h6 hi6 hr6 hq6;by_cases hkeep:n2=0\/sb=false
  · have Hdm:=Lh (show DM z k (Jx sb (z.natAbs / k.natAbs)) (Jx bz (z.natAbs % k.natAbs)) by
      have:=Gn (z:=z) (k:=k) rfl rfl Hk0.out (by
        rcases hkeep with h|h
        · exact .inl (Hn2.out.1 h)
        · rw [← Hsb.out,← Hbz.out,← Hbk.out] at h; exact .inr h)
      rw[Hbz.out,Hbk.out,Hsb.out]at this;exact this)
    by_cases hn0:n2=0
    · subst hn0
      clear hkeep;go_wp2_with fail
      clear f0 f1 g0 g1 i0 i1 j0 j1 hw7;have f0:=HQ7.out.f0;have f1:=HQ7.out.f1;have g0:=HR7.out.f0;have g1:=HR7.out.f1;have i0:=HQ7.out.c0;have i1:=HQ7.out.c1;have j0:=HR7.out.c0;have j1:=HR7.out.c1;have hr8:=HR7.out.other (p:=w.heap.size+2) (by omega) (Ji Jl qa) (Jp qP);have J1:=Lh (((I1.out.held HQ7.out (Ji Jl qa) (Jp qP)).held hr8 (Ji Jl ra) (Jp rP)).keep (below_drewN (E4 _ _) 1));have J2:=Lh (((I2.out.held HQ7.out (Ji Jl qa) (Jp qP)).held hr8 (Ji Jl ra) (Jp rP)).keep (below_drewN (E4 _ _) 1));have K8:=Lh (below_drewN (Jg (Jg K7.out (show w.heap.size<=w.heap.size+2 by omega) (Ji Jl qa) (Jp qP)) (show w.heap.size<=w.heap.size+3 by omega) (Ji Jl ra) (Jp rP)) 1);clear hr8;go_region
      all_goals
        go_wp2_with fail
        exact bodyPost_ret (v:= .tuple #[Ja #[Ji Jl qa,Jp qP],Ja #[Ji Jl ra,Jp rP],Ji Jl 0]) (by simp[results,Tryz.results86,go_sem,i0,i1,j0,j1]) rfl ⟨qa,qP,ra,rP,_,_,rfl,J1.out,J2.out,Hdm.out,K8.out⟩
    · have hn20:0<n2:=by omega
      obtain rfl:sb=false:=hkeep.elim (fun h=>absurd h hn0) (fun h=>h);clear hkeep hn0;go_wp2_with fail
      clear f0 f1 g0 g1 i0 i1 j0 j1 hw7;have f0:=HQ7.out.f0;have f1:=HQ7.out.f1;have g0:=HR7.out.f0;have g1:=HR7.out.f1;have i0:=HQ7.out.c0;have i1:=HQ7.out.c1;have j0:=HR7.out.c0;have j1:=HR7.out.c1;have hr8:=HR7.out.other (p:=w.heap.size+2) (by omega) (Ji Jl qa) (Jp qP);have J1:=Lh (((I1.out.held HQ7.out (Ji Jl qa) (Jp qP)).held hr8 (Ji Jl ra) (Jp rP)).keep (below_drewN (E4 _ _) 1));have J2:=Lh (((I2.out.held HQ7.out (Ji Jl qa) (Jp qP)).held hr8 (Ji Jl ra) (Jp rP)).keep (below_drewN (E4 _ _) 1));have K8:=Lh (below_drewN (Jg (Jg K7.out (show w.heap.size<=w.heap.size+2 by omega) (Ji Jl qa) (Jp qP)) (show w.heap.size<=w.heap.size+3 by omega) (Ji Jl ra) (Jp rP)) 1);clear hr8;go_region
      all_goals
        go_wp2_with fail
        exact bodyPost_ret (v:= .tuple #[Ja #[Ji Jl qa,Jp qP],Ja #[Ji Jl ra,Jp rP],Ji Jl 0]) (by simp[results,Tryz.results86,go_sem,i0,i1,j0,j1]) rfl ⟨qa,qP,ra,rP,_,_,rfl,J1.out,J2.out,Hdm.out,K8.out⟩
  · have hn20:0<n2:=by omega
    obtain rfl:sb=true:=by cases sb <;> simp_all
    clear hkeep;have Hdm:=Lh (show DM z k (Jx true (z.natAbs / k.natAbs) - 1) (Jx bz (z.natAbs % k.natAbs)+k) by
      have hb:(decide (z<0) !=decide (k<0))=true:=by rw[Hbz.out,Hbk.out];exact Hsb.out
      have:=Gm (z:=z) (k:=k) rfl rfl Hk0.out (fun h0=>by have:=Hn2.out.2 h0;omega) hb;rw[hb,Hbz.out]at this;exact this)
    have Lq:=Lh (show (Jx true (z.natAbs / k.natAbs)).natAbs<base 400 by
      rw [QP]; exact E6 (E9 _ _) (Jq Hlz.out (by decide)))
    have Lr:=Lh (show (Jx bz (z.natAbs % k.natAbs)).natAbs<base 400 by
      rw [QP]; exact E6 (Nat.mod_le _ _) (Jq Hlz.out (by decide)))
    have Hsub:=Lh (fun v (hb:Below w7.heap.size w7 v)=>VX qa 1 qP Jn _ 1 v (I1.out.keep hb) (.inl ⟨⟨by decide,by decide⟩,rfl⟩) Lq.out (by decide +kernel));have Hadd:=Lh (fun v (hb:Below w7.heap.size w7 v)=>UR ra b rP Q _ k v (I2.out.keep hb) (VB7.out.int.keep hb) Lr.out (Jq Hlk.out (by decide)));have HS:=Lh (fun v (hb:Below w7.heap.size w7 v)=>X9 HQ7.out HR7.out VB7.out hb);obtain⟨zq,hzq⟩:∃zq,Jx true (z.natAbs/k.natAbs)=zq:=⟨_,rfl⟩;obtain⟨zr,hzr⟩:∃zr,Jx bz (z.natAbs%k.natAbs)=zr:=⟨_,rfl⟩;rw[hzq]at Hdm Hsub;rw[hzr]at Hdm Hadd;clear hzq hzr;go_wp2_with fail
    clear f0 f1 g0 g1 i0 i1 j0 j1 hw7;refine Till.begin 6 (fun v=>v.cell? ⟨w.heap.size+2,0,Jn⟩=Jo (Ji Jl qa)/\v.cell? ⟨w.heap.size+2,1,Jn⟩=Jo (Jp qP)/\v.cell? ⟨w.heap.size+3,0,Jn⟩=Jo (Ji Jl ra)/\v.cell? ⟨w.heap.size+3,1,Jn⟩=Jo (Jp rP)/\v.cell? ⟨w.heap.size+1,0,Jn⟩=Jo (Ji Jl b)/\v.cell? ⟨w.heap.size+1,1,Jn⟩=Jo (Jp Q)) (by kernel_rfl) (HS.out _ (below_drewN (E4 _ _) 1)) (fun hH=>?_);refine Till.tk 0 2 95 (Ja #[Ji Jl qa,Jp qP]) hH ?_;try simp only[E5,Pls]
    refine Till.tk 3 5 98 (Ja #[Ji Jl ra,Jp rP]) hH ?_;try simp only[E5,Pls]
    refine Till.tk 4 5 99 (Ja #[Ji Jl b,Jp Q]) hH ?_;try simp only[E5,Pls]
    clear hH;refine Till.one (i:=1) (by kernel_rfl) rfl (fun K hK=>?_);go_simp;refine(Ye 1 _).mono ?_;rintro e v1⟨rfl,g1⟩;have B1:=Lh (Jd (below_drewN (E4 w7.heap.size w7) 1) g1);clear g1;go_wp2_with fail
    refine hK.out _ _ (fun _=>HS.out _ B1.out) ?_;clear hK K;try simp only[E5,Pls]
    refine Till.one (i:=2) (by kernel_rfl) rfl (fun K hK=>?_);go_simp;refine(Hsub.out _ B1.out).mono ?_;rintro e v2⟨sa,sP,rfl,hs,g2⟩;have B2:=Lh (Jd B1.out g2);have Hs2':=Lh hs;clear g2 hs;go_wp2_with fail
    refine hK.out _ _ (fun _=>HS.out _ B2.out) ?_;clear hK K;try simp only[E5,Pls]
    refine Till.one (i:=5) (by kernel_rfl) rfl (fun K hK=>?_);go_simp;refine(Hadd.out _ B2.out).mono ?_;rintro e v3⟨ta,tP,rfl,ht,g3⟩;have B3:=Lh (Jd B2.out g3);have Hs3:=Lh (Hs2'.out.keep g3);have Ht3:=Lh ht;clear g3 ht;go_wp2_with fail
    refine hK.out _ _ (fun _=>HS.out _ B3.out) ?_;clear hK K;try simp only[E5,Pls]
    have HQ8:=Lh (HQ7.out.keep B3.out);have HR8:=Lh (HR7.out.keep B3.out);have f0:=HQ8.out.f0;have f1:=HQ8.out.f1;have g0:=HR8.out.f0;have g1:=HR8.out.f1;have i0:=HQ8.out.c0;have i1:=HQ8.out.c1;have j0:=HR8.out.c0;have j1:=HR8.out.c1;refine Till.one (i:=6) (by kernel_rfl) rfl (fun K hK=>?_);go_simp;refine hK.out _ _ (fun h=>absurd h (by simp)) ?_;clear hK K;try simp only[E5,Pls]
    refine Till.one (i:=7) (by kernel_rfl) rfl (fun K hK=>?_);go_simp;refine hK.out _ _ (fun h=>absurd h (by simp)) ?_;clear hK K;try simp only[E5,Pls]
    refine Till.done (by kernel_rfl) ?_ _;have hr9:=HR8.out.other (p:=w.heap.size+2) (by omega) (Ji Jl sa) (Jp sP);have hq9:=HQ8.out.store sa sP;obtain⟨w9,hw9⟩:∃w9,((((v3.setCell ⟨w.heap.size+1+1,0,Jn⟩ (Ji Jl sa)).setCell ⟨w.heap.size+1+1,1,Jn⟩ (Jp sP)).setCell ⟨w.heap.size+1+1+1,0,Jn⟩ (Ji Jl ta)).setCell ⟨w.heap.size+1+1+1,1,Jn⟩ (Jp tP))=w9:=⟨_,rfl⟩;rw[hw9];have HQ9:=Lh (show Hold w9 (w.heap.size+2) sa sP by rw[←hw9];exact hq9.other (by omega) _ _);have HR9:=Lh (show Hold w9 (w.heap.size+3) ta tP by rw[←hw9];exact hr9.store ta tP);have I3:=Lh (show Jj 0 w9 (Ja #[Ji Jl sa,Jp sP]) (zq-1)by rw[←hw9];exact(Hs3.out.held HQ8.out _ _).held hr9 _ _);have I4:=Lh (show Jj 0 w9 (Ja #[Ji Jl ta,Jp tP]) (zr+k)by rw[←hw9];exact(Ht3.out.held HQ8.out _ _).held hr9 _ _);have K9:=Lh (show Below w.heap.size w w9 by rw[←hw9];exact Jg (Jg (Jd K7.out B3.out) (by omega) _ _) (by omega) _ _);clear hr9 hq9 f0 f1 g0 g1 i0 i1 j0 j1;go_wp2_with fail
    clear hw9;have f0:=HQ9.out.f0;have f1:=HQ9.out.f1;have g0:=HR9.out.f0;have g1:=HR9.out.f1;have i0:=HQ9.out.c0;have i1:=HQ9.out.c1;have j0:=HR9.out.c0;have j1:=HR9.out.c1;have hr8:=HR9.out.other (p:=w.heap.size+2) (by omega) (Ji Jl sa) (Jp sP);have J1:=Lh (((I3.out.held HQ9.out (Ji Jl sa) (Jp sP)).held hr8 (Ji Jl ta) (Jp tP)).keep (below_drewN (E4 _ _) 1));have J2:=Lh (((I4.out.held HQ9.out (Ji Jl sa) (Jp sP)).held hr8 (Ji Jl ta) (Jp tP)).keep (below_drewN (E4 _ _) 1));have K8:=Lh (below_drewN (Jg (Jg K9.out (show w.heap.size<=w.heap.size+2 by omega) (Ji Jl sa) (Jp sP)) (show w.heap.size<=w.heap.size+3 by omega) (Ji Jl ta) (Jp tP)) 1);clear hr8;go_region
    all_goals
      go_wp2_with fail
      exact bodyPost_ret (v:= .tuple #[Ja #[Ji Jl sa,Jp sP],Ja #[Ji Jl ta,Jp tP],Ji Jl 0]) (by simp[results,Tryz.results86,go_sem,i0,i1,j0,j1]) rfl ⟨sa,sP,ta,tP,_,_,rfl,J1.out,J2.out,Hdm.out,K8.out⟩
theorem Gs(b:Int)(z k:Int)(w:JW)(h:Jj 0 w (Ja #[Ji Jl (-9223372036854775808),Jp Jn]) z)(h':Jj 0 w (Ja #[Ji Jl b,Jp Jn]) k)(hk0:k≠0)(hlz:z.natAbs<base 390)(hlk:k.natAbs<base 390) :
    Calls Tryz.prog 86 #[Ja #[Ji Jl (-9223372036854775808),Jp Jn],Ja #[Ji Jl b,Jp Jn]] w (UX z k w):=by
  obtain⟨bz,hbz⟩:∃bz,decide (z<0)=bz:=⟨_,rfl⟩;obtain⟨bk,hbk⟩:∃bk,decide (k<0)=bk:=⟨_,rfl⟩;obtain⟨w0,hw0⟩:∃w0,w0=(((w.alloc (Jc #[Ji Jl (-9223372036854775808),Jp Jn] 29)).alloc (Jc #[Ji Jl b,Jp Jn] 29)).alloc (Jc #[Ji Jl 0,Jp Jn] 29)).alloc (Jc #[Ji Jl 0,Jp Jn] 29):=⟨_,rfl⟩;obtain⟨va,vb,hq,hr,kk⟩:=Uq h h' hw0;have VA:=Lh va;have VB:=Lh vb;have HQ:=Lh hq;have HR:=Lh hr;have KK:=Lh kk;have hsgn:sgn k≠0:=by unfold sgn;split <;> (try split) <;> omega
  obtain⟨x,hx⟩:∃x,sgn k=x:=⟨_,rfl⟩;have Hs:=Lh (QA _ k w0 vb.int);rw[hx]at Hs hsgn;have t0:(x ==0)=false:=by rw[beq_eq_false_iff_ne];exact hsgn
  have Hbz:=Lh hbz;have Hbk:=Lh hbk;have Hlz:=Lh hlz;have Hlk:=Lh hlk;have Hk0:=Lh hk0;have hm0:0<k.natAbs:=by omega
  have Hm0:=Lh hm0;rw[hw0]at Hs;have Hw0:=Lh hw0;clear h h' hbz hbk va vb hq hr kk hw0 hx hsgn hlz hlk hk0 hm0;go_enter Tryz.func86,Tryz.ntmps86;go_wp2_with fail
  refine Hs.out.mono ?_;rintro e w1⟨rfl,h1⟩;rw[←Hw0.out]at h1;have VA1:=Lh (VA.out.keep h1);have VB1:=Lh (VB.out.keep h1);have HQ1:=Lh (HQ.out.keep h1);have HR1:=Lh (HR.out.keep h1);have K1:=Lh (Jd KK.out h1);have va0:=VA1.out.c0;have va1:=VA1.out.c1;have vb0:=VB1.out.c0;have vb1:=VB1.out.c1;have Hpa:=Lh (JF _ z w1 bz Hbz.out VA1.out.int);clear h1;go_wp2_with fail
  refine Hpa.out.mono ?_;rintro e w2⟨A,n,c,xs,rfl,hx,h2⟩;have VB2:=Lh (VB1.out.keep h2);have HQ2:=Lh (HQ1.out.keep h2);have HR2:=Lh (HR1.out.keep h2);have K2:=Lh (Jd K1.out h2);have Hx:=Lh hx;have Hpb:=Lh (JF _ k w2 bk Hbk.out VB2.out.int);clear va0 va1 vb0 vb1 h2 hx t0;have vb0:=VB2.out.c0;have vb1:=VB2.out.c1;go_wp2_with fail
  refine Hpb.out.mono ?_;rintro e w3⟨A',n',c',ys,rfl,hy,h3⟩;have VB3:=Lh (VB2.out.keep h3);have HQ3:=Lh (HQ2.out.keep h3);have HR3:=Lh (HR2.out.keep h3);have K3:=Lh (Jd K2.out h3);have Hdn:=Lh (Ys w3 (Hx.out.keep h3) hy Hm0.out (by have:=Hx.out.len_le Hlz.out;omega));clear vb0 vb1 h3 hy;go_wp2_with fail
  refine Hdn.out.mono ?_;rintro e w4⟨A1,n1,c1,zs,A2,n2,c2,us,rfl,hq,hr,h4⟩;have VB4:=Lh (VB3.out.keep h4);have HQ4:=Lh (HQ3.out.keep h4);have HR4:=Lh (HR3.out.keep h4);have K4:=Lh (Jd K3.out h4);have Hr4:=Lh hr;obtain⟨sb,hsb⟩:∃sb,(!(bz ==bk))=sb:=⟨_,rfl⟩;have Hsb:=Lh (show(bz !=bk)=sb from hsb);have hn2:=hr.len;have Hn2:=Lh hr.zero_iff;have Hs1:=Lh (JD sb (Jx sb (z.natAbs/k.natAbs)) w4 hq rfl);clear h4 hq hr;go_wp2_with fail
  refine Hs1.out.mono ?_;rintro e w5⟨qa,qP,rfl,hi5,h5⟩;have VB5:=Lh (VB4.out.keep h5);have HQ5:=Lh (HQ4.out.keep h5);have HR5:=Lh (HR4.out.keep h5);have K5:=Lh (Jd K4.out h5);have Hi5:=Lh hi5;have Hs2:=Lh (JD bz (Jx bz (z.natAbs%k.natAbs)) w5 (Hr4.out.keep h5) rfl);clear h5 hi5;go_wp2_with fail
  refine Hs2.out.mono ?_;rintro e w6⟨ra,rP,rfl,hi6,h6⟩;have VB6:=Lh (VB5.out.keep h6);have HQ6:=Lh (HQ5.out.keep h6);have HR6:=Lh (HR5.out.keep h6);have K6:=Lh (Jd K5.out h6);obtain⟨w7,hw7⟩:∃w7,((((w6.setCell ⟨w.heap.size+2,0,Jn⟩ (Ji Jl qa)).setCell ⟨w.heap.size+2,1,Jn⟩ (Jp qP)).setCell ⟨w.heap.size+3,0,Jn⟩ (Ji Jl ra)).setCell ⟨w.heap.size+3,1,Jn⟩ (Jp rP))=w7:=⟨_,rfl⟩;have hr6:=HR6.out.other (p:=w.heap.size+2) (by omega) (Ji Jl qa) (Jp qP);have hq6:=HQ6.out.store qa qP;have HQ7:=Lh (show Hold w7 (w.heap.size+2) qa qP by rw[←hw7];exact hq6.other (by omega) _ _);have HR7:=Lh (show Hold w7 (w.heap.size+3) ra rP by rw[←hw7];exact hr6.store ra rP);have VB7:=Lh (show Var w7 (w.heap.size+1) b Jn k by rw[←hw7];exact(VB6.out.held HQ6.out (by omega) _ _).held hr6 (by omega) _ _);have I1:=Lh (show Jj 0 w7 (Ja #[Ji Jl qa,Jp qP]) (Jx sb (z.natAbs/k.natAbs))by rw[←hw7];exact((Hi5.out.keep h6).held HQ6.out _ _).held hr6 _ _);have I2:=Lh (show Jj 0 w7 (Ja #[Ji Jl ra,Jp rP]) (Jx bz (z.natAbs%k.natAbs))by rw[←hw7];exact(hi6.held HQ6.out _ _).held hr6 _ _);have K7:=Lh (show Below w.heap.size w w7 by rw[←hw7];exact Jg (Jg K6.out (by omega) _ _) (by omega) _ _);have f0:=HQ6.out.f0;have f1:=HQ6.out.f1;have g0:=HR6.out.f0;have g1:=HR6.out.f1;have i0:=HQ6.out.c0;have i1:=HQ6.out.c1;have j0:=HR6.out.c0;have j1:=HR6.out.c1;clear h6 hi6 hr6 hq6;by_cases hkeep:n2=0\/sb=false
  · have Hdm:=Lh (show DM z k (Jx sb (z.natAbs / k.natAbs)) (Jx bz (z.natAbs % k.natAbs)) by
      have:=Gn (z:=z) (k:=k) rfl rfl Hk0.out (by
        rcases hkeep with h|h
        · exact .inl (Hn2.out.1 h)
        · rw [← Hsb.out,← Hbz.out,← Hbk.out] at h; exact .inr h)
      rw[Hbz.out,Hbk.out,Hsb.out]at this;exact this)
    by_cases hn0:n2=0
    · subst hn0
      clear hkeep;go_wp2_with fail
      clear f0 f1 g0 g1 i0 i1 j0 j1 hw7;have f0:=HQ7.out.f0;have f1:=HQ7.out.f1;have g0:=HR7.out.f0;have g1:=HR7.out.f1;have i0:=HQ7.out.c0;have i1:=HQ7.out.c1;have j0:=HR7.out.c0;have j1:=HR7.out.c1;have hr8:=HR7.out.other (p:=w.heap.size+2) (by omega) (Ji Jl qa) (Jp qP);have J1:=Lh (((I1.out.held HQ7.out (Ji Jl qa) (Jp qP)).held hr8 (Ji Jl ra) (Jp rP)).keep (below_drewN (E4 _ _) 1));have J2:=Lh (((I2.out.held HQ7.out (Ji Jl qa) (Jp qP)).held hr8 (Ji Jl ra) (Jp rP)).keep (below_drewN (E4 _ _) 1));have K8:=Lh (below_drewN (Jg (Jg K7.out (show w.heap.size<=w.heap.size+2 by omega) (Ji Jl qa) (Jp qP)) (show w.heap.size<=w.heap.size+3 by omega) (Ji Jl ra) (Jp rP)) 1);clear hr8;go_region
      all_goals
        go_wp2_with fail
        exact bodyPost_ret (v:= .tuple #[Ja #[Ji Jl qa,Jp qP],Ja #[Ji Jl ra,Jp rP],Ji Jl 0]) (by simp[results,Tryz.results86,go_sem,i0,i1,j0,j1]) rfl ⟨qa,qP,ra,rP,_,_,rfl,J1.out,J2.out,Hdm.out,K8.out⟩
    · have hn20:0<n2:=by omega
      obtain rfl:sb=false:=hkeep.elim (fun h=>absurd h hn0) (fun h=>h);clear hkeep hn0;go_wp2_with fail
      clear f0 f1 g0 g1 i0 i1 j0 j1 hw7;have f0:=HQ7.out.f0;have f1:=HQ7.out.f1;have g0:=HR7.out.f0;have g1:=HR7.out.f1;have i0:=HQ7.out.c0;have i1:=HQ7.out.c1;have j0:=HR7.out.c0;have j1:=HR7.out.c1;have hr8:=HR7.out.other (p:=w.heap.size+2) (by omega) (Ji Jl qa) (Jp qP);have J1:=Lh (((I1.out.held HQ7.out (Ji Jl qa) (Jp qP)).held hr8 (Ji Jl ra) (Jp rP)).keep (below_drewN (E4 _ _) 1));have J2:=Lh (((I2.out.held HQ7.out (Ji Jl qa) (Jp qP)).held hr8 (Ji Jl ra) (Jp rP)).keep (below_drewN (E4 _ _) 1));have K8:=Lh (below_drewN (Jg (Jg K7.out (show w.heap.size<=w.heap.size+2 by omega) (Ji Jl qa) (Jp qP)) (show w.heap.size<=w.heap.size+3 by omega) (Ji Jl ra) (Jp rP)) 1);clear hr8;go_region
      all_goals
        go_wp2_with fail
        exact bodyPost_ret (v:= .tuple #[Ja #[Ji Jl qa,Jp qP],Ja #[Ji Jl ra,Jp rP],Ji Jl 0]) (by simp[results,Tryz.results86,go_sem,i0,i1,j0,j1]) rfl ⟨qa,qP,ra,rP,_,_,rfl,J1.out,J2.out,Hdm.out,K8.out⟩
  · have hn20:0<n2:=by omega
    obtain rfl:sb=true:=by cases sb <;> simp_all
    clear hkeep;have Hdm:=Lh (show DM z k (Jx true (z.natAbs / k.natAbs) - 1) (Jx bz (z.natAbs % k.natAbs)+k) by
      have hb:(decide (z<0) !=decide (k<0))=true:=by rw[Hbz.out,Hbk.out];exact Hsb.out
      have:=Gm (z:=z) (k:=k) rfl rfl Hk0.out (fun h0=>by have:=Hn2.out.2 h0;omega) hb;rw[hb,Hbz.out]at this;exact this)
    have Lq:=Lh (show (Jx true (z.natAbs / k.natAbs)).natAbs<base 400 by
      rw [QP]; exact E6 (E9 _ _) (Jq Hlz.out (by decide)))
    have Lr:=Lh (show (Jx bz (z.natAbs % k.natAbs)).natAbs<base 400 by
      rw [QP]; exact E6 (Nat.mod_le _ _) (Jq Hlz.out (by decide)))
    have Hsub:=Lh (fun v (hb:Below w7.heap.size w7 v)=>VX qa 1 qP Jn _ 1 v (I1.out.keep hb) (.inl ⟨⟨by decide,by decide⟩,rfl⟩) Lq.out (by decide +kernel));have Hadd:=Lh (fun v (hb:Below w7.heap.size w7 v)=>UR ra b rP Jn _ k v (I2.out.keep hb) (VB7.out.int.keep hb) Lr.out (Jq Hlk.out (by decide)));have HS:=Lh (fun v (hb:Below w7.heap.size w7 v)=>X9 HQ7.out HR7.out VB7.out hb);obtain⟨zq,hzq⟩:∃zq,Jx true (z.natAbs/k.natAbs)=zq:=⟨_,rfl⟩;obtain⟨zr,hzr⟩:∃zr,Jx bz (z.natAbs%k.natAbs)=zr:=⟨_,rfl⟩;rw[hzq]at Hdm Hsub;rw[hzr]at Hdm Hadd;clear hzq hzr;go_wp2_with fail
    clear f0 f1 g0 g1 i0 i1 j0 j1 hw7;refine Till.begin 6 (fun v=>v.cell? ⟨w.heap.size+2,0,Jn⟩=Jo (Ji Jl qa)/\v.cell? ⟨w.heap.size+2,1,Jn⟩=Jo (Jp qP)/\v.cell? ⟨w.heap.size+3,0,Jn⟩=Jo (Ji Jl ra)/\v.cell? ⟨w.heap.size+3,1,Jn⟩=Jo (Jp rP)/\v.cell? ⟨w.heap.size+1,0,Jn⟩=Jo (Ji Jl b)/\v.cell? ⟨w.heap.size+1,1,Jn⟩=Jo (Jp Jn)) (by kernel_rfl) (HS.out _ (below_drewN (E4 _ _) 1)) (fun hH=>?_);refine Till.tk 0 2 95 (Ja #[Ji Jl qa,Jp qP]) hH ?_;try simp only[E5,Pls]
    refine Till.tk 3 5 98 (Ja #[Ji Jl ra,Jp rP]) hH ?_;try simp only[E5,Pls]
    refine Till.tk 4 5 99 (Ja #[Ji Jl b,Jp Jn]) hH ?_;try simp only[E5,Pls]
    clear hH;refine Till.one (i:=1) (by kernel_rfl) rfl (fun K hK=>?_);go_simp;refine(Ye 1 _).mono ?_;rintro e v1⟨rfl,g1⟩;have B1:=Lh (Jd (below_drewN (E4 w7.heap.size w7) 1) g1);clear g1;go_wp2_with fail
    refine hK.out _ _ (fun _=>HS.out _ B1.out) ?_;clear hK K;try simp only[E5,Pls]
    refine Till.one (i:=2) (by kernel_rfl) rfl (fun K hK=>?_);go_simp;refine(Hsub.out _ B1.out).mono ?_;rintro e v2⟨sa,sP,rfl,hs,g2⟩;have B2:=Lh (Jd B1.out g2);have Hs2':=Lh hs;clear g2 hs;go_wp2_with fail
    refine hK.out _ _ (fun _=>HS.out _ B2.out) ?_;clear hK K;try simp only[E5,Pls]
    refine Till.one (i:=5) (by kernel_rfl) rfl (fun K hK=>?_);go_simp;refine(Hadd.out _ B2.out).mono ?_;rintro e v3⟨ta,tP,rfl,ht,g3⟩;have B3:=Lh (Jd B2.out g3);have Hs3:=Lh (Hs2'.out.keep g3);have Ht3:=Lh ht;clear g3 ht;go_wp2_with fail
    refine hK.out _ _ (fun _=>HS.out _ B3.out) ?_;clear hK K;try simp only[E5,Pls]
    have HQ8:=Lh (HQ7.out.keep B3.out);have HR8:=Lh (HR7.out.keep B3.out);have f0:=HQ8.out.f0;have f1:=HQ8.out.f1;have g0:=HR8.out.f0;have g1:=HR8.out.f1;have i0:=HQ8.out.c0;have i1:=HQ8.out.c1;have j0:=HR8.out.c0;have j1:=HR8.out.c1;refine Till.one (i:=6) (by kernel_rfl) rfl (fun K hK=>?_);go_simp;refine hK.out _ _ (fun h=>absurd h (by simp)) ?_;clear hK K;try simp only[E5,Pls]
    refine Till.one (i:=7) (by kernel_rfl) rfl (fun K hK=>?_);go_simp;refine hK.out _ _ (fun h=>absurd h (by simp)) ?_;clear hK K;try simp only[E5,Pls]
    refine Till.done (by kernel_rfl) ?_ _;have hr9:=HR8.out.other (p:=w.heap.size+2) (by omega) (Ji Jl sa) (Jp sP);have hq9:=HQ8.out.store sa sP;obtain⟨w9,hw9⟩:∃w9,((((v3.setCell ⟨w.heap.size+1+1,0,Jn⟩ (Ji Jl sa)).setCell ⟨w.heap.size+1+1,1,Jn⟩ (Jp sP)).setCell ⟨w.heap.size+1+1+1,0,Jn⟩ (Ji Jl ta)).setCell ⟨w.heap.size+1+1+1,1,Jn⟩ (Jp tP))=w9:=⟨_,rfl⟩;rw[hw9];have HQ9:=Lh (show Hold w9 (w.heap.size+2) sa sP by rw[←hw9];exact hq9.other (by omega) _ _);have HR9:=Lh (show Hold w9 (w.heap.size+3) ta tP by rw[←hw9];exact hr9.store ta tP);have I3:=Lh (show Jj 0 w9 (Ja #[Ji Jl sa,Jp sP]) (zq-1)by rw[←hw9];exact(Hs3.out.held HQ8.out _ _).held hr9 _ _);have I4:=Lh (show Jj 0 w9 (Ja #[Ji Jl ta,Jp tP]) (zr+k)by rw[←hw9];exact(Ht3.out.held HQ8.out _ _).held hr9 _ _);have K9:=Lh (show Below w.heap.size w w9 by rw[←hw9];exact Jg (Jg (Jd K7.out B3.out) (by omega) _ _) (by omega) _ _);clear hr9 hq9 f0 f1 g0 g1 i0 i1 j0 j1;go_wp2_with fail
    clear hw9;have f0:=HQ9.out.f0;have f1:=HQ9.out.f1;have g0:=HR9.out.f0;have g1:=HR9.out.f1;have i0:=HQ9.out.c0;have i1:=HQ9.out.c1;have j0:=HR9.out.c0;have j1:=HR9.out.c1;have hr8:=HR9.out.other (p:=w.heap.size+2) (by omega) (Ji Jl sa) (Jp sP);have J1:=Lh (((I3.out.held HQ9.out (Ji Jl sa) (Jp sP)).held hr8 (Ji Jl ta) (Jp tP)).keep (below_drewN (E4 _ _) 1));have J2:=Lh (((I4.out.held HQ9.out (Ji Jl sa) (Jp sP)).held hr8 (Ji Jl ta) (Jp tP)).keep (below_drewN (E4 _ _) 1));have K8:=Lh (below_drewN (Jg (Jg K9.out (show w.heap.size<=w.heap.size+2 by omega) (Ji Jl sa) (Jp sP)) (show w.heap.size<=w.heap.size+3 by omega) (Ji Jl ta) (Jp tP)) 1);clear hr8;go_region
    all_goals
      go_wp2_with fail
      exact bodyPost_ret (v:= .tuple #[Ja #[Ji Jl sa,Jp sP],Ja #[Ji Jl ta,Jp tP],Ji Jl 0]) (by simp[results,Tryz.results86,go_sem,i0,i1,j0,j1]) rfl ⟨sa,sP,ta,tP,_,_,rfl,J1.out,J2.out,Hdm.out,K8.out⟩
theorem Gr(a b:Int)(p:Nat)(z k:Int)(w:JW)(h:Jj 0 w (Ja #[Ji Jl a,Jp Jn]) z)(h':Jj 0 w (Ja #[Ji Jl b,Jp (Jo ⟨p,0,Jn⟩)]) k)(hk0:k≠0)(hlz:z.natAbs<base 390)(hlk:k.natAbs<base 390) :
    Calls Tryz.prog 86 #[Ja #[Ji Jl a,Jp Jn],Ja #[Ji Jl b,Jp (Jo ⟨p,0,Jn⟩)]] w (UX z k w):=by
  obtain⟨bz,hbz⟩:∃bz,decide (z<0)=bz:=⟨_,rfl⟩;obtain⟨bk,hbk⟩:∃bk,decide (k<0)=bk:=⟨_,rfl⟩;obtain⟨w0,hw0⟩:∃w0,w0=(((w.alloc (Jc #[Ji Jl a,Jp Jn] 29)).alloc (Jc #[Ji Jl b,Jp (Jo ⟨p,0,Jn⟩)] 29)).alloc (Jc #[Ji Jl 0,Jp Jn] 29)).alloc (Jc #[Ji Jl 0,Jp Jn] 29):=⟨_,rfl⟩;obtain⟨va,vb,hq,hr,kk⟩:=Uq h h' hw0;have VA:=Lh va;have VB:=Lh vb;have HQ:=Lh hq;have HR:=Lh hr;have KK:=Lh kk;have hsgn:sgn k≠0:=by unfold sgn;split <;> (try split) <;> omega
  obtain⟨x,hx⟩:∃x,sgn k=x:=⟨_,rfl⟩;have Hs:=Lh (QA _ k w0 vb.int);rw[hx]at Hs hsgn;have t0:(x ==0)=false:=by rw[beq_eq_false_iff_ne];exact hsgn
  have Hbz:=Lh hbz;have Hbk:=Lh hbk;have Hlz:=Lh hlz;have Hlk:=Lh hlk;have Hk0:=Lh hk0;have hm0:0<k.natAbs:=by omega
  have Hm0:=Lh hm0;rw[hw0]at Hs;have Hw0:=Lh hw0;clear h h' hbz hbk va vb hq hr kk hw0 hx hsgn hlz hlk hk0 hm0;go_enter Tryz.func86,Tryz.ntmps86;go_wp2_with fail
  refine Hs.out.mono ?_;rintro e w1⟨rfl,h1⟩;rw[←Hw0.out]at h1;have VA1:=Lh (VA.out.keep h1);have VB1:=Lh (VB.out.keep h1);have HQ1:=Lh (HQ.out.keep h1);have HR1:=Lh (HR.out.keep h1);have K1:=Lh (Jd KK.out h1);have va0:=VA1.out.c0;have va1:=VA1.out.c1;have vb0:=VB1.out.c0;have vb1:=VB1.out.c1;have Hpa:=Lh (JF _ z w1 bz Hbz.out VA1.out.int);clear h1;go_wp2_with fail
  refine Hpa.out.mono ?_;rintro e w2⟨A,n,c,xs,rfl,hx,h2⟩;have VB2:=Lh (VB1.out.keep h2);have HQ2:=Lh (HQ1.out.keep h2);have HR2:=Lh (HR1.out.keep h2);have K2:=Lh (Jd K1.out h2);have Hx:=Lh hx;have Hpb:=Lh (JF _ k w2 bk Hbk.out VB2.out.int);clear va0 va1 vb0 vb1 h2 hx t0;have vb0:=VB2.out.c0;have vb1:=VB2.out.c1;go_wp2_with fail
  refine Hpb.out.mono ?_;rintro e w3⟨A',n',c',ys,rfl,hy,h3⟩;have VB3:=Lh (VB2.out.keep h3);have HQ3:=Lh (HQ2.out.keep h3);have HR3:=Lh (HR2.out.keep h3);have K3:=Lh (Jd K2.out h3);have Hdn:=Lh (Ys w3 (Hx.out.keep h3) hy Hm0.out (by have:=Hx.out.len_le Hlz.out;omega));clear vb0 vb1 h3 hy;go_wp2_with fail
  refine Hdn.out.mono ?_;rintro e w4⟨A1,n1,c1,zs,A2,n2,c2,us,rfl,hq,hr,h4⟩;have VB4:=Lh (VB3.out.keep h4);have HQ4:=Lh (HQ3.out.keep h4);have HR4:=Lh (HR3.out.keep h4);have K4:=Lh (Jd K3.out h4);have Hr4:=Lh hr;obtain⟨sb,hsb⟩:∃sb,(!(bz ==bk))=sb:=⟨_,rfl⟩;have Hsb:=Lh (show(bz !=bk)=sb from hsb);have hn2:=hr.len;have Hn2:=Lh hr.zero_iff;have Hs1:=Lh (JD sb (Jx sb (z.natAbs/k.natAbs)) w4 hq rfl);clear h4 hq hr;go_wp2_with fail
  refine Hs1.out.mono ?_;rintro e w5⟨qa,qP,rfl,hi5,h5⟩;have VB5:=Lh (VB4.out.keep h5);have HQ5:=Lh (HQ4.out.keep h5);have HR5:=Lh (HR4.out.keep h5);have K5:=Lh (Jd K4.out h5);have Hi5:=Lh hi5;have Hs2:=Lh (JD bz (Jx bz (z.natAbs%k.natAbs)) w5 (Hr4.out.keep h5) rfl);clear h5 hi5;go_wp2_with fail
  refine Hs2.out.mono ?_;rintro e w6⟨ra,rP,rfl,hi6,h6⟩;have VB6:=Lh (VB5.out.keep h6);have HQ6:=Lh (HQ5.out.keep h6);have HR6:=Lh (HR5.out.keep h6);have K6:=Lh (Jd K5.out h6);obtain⟨w7,hw7⟩:∃w7,((((w6.setCell ⟨w.heap.size+2,0,Jn⟩ (Ji Jl qa)).setCell ⟨w.heap.size+2,1,Jn⟩ (Jp qP)).setCell ⟨w.heap.size+3,0,Jn⟩ (Ji Jl ra)).setCell ⟨w.heap.size+3,1,Jn⟩ (Jp rP))=w7:=⟨_,rfl⟩;have hr6:=HR6.out.other (p:=w.heap.size+2) (by omega) (Ji Jl qa) (Jp qP);have hq6:=HQ6.out.store qa qP;have HQ7:=Lh (show Hold w7 (w.heap.size+2) qa qP by rw[←hw7];exact hq6.other (by omega) _ _);have HR7:=Lh (show Hold w7 (w.heap.size+3) ra rP by rw[←hw7];exact hr6.store ra rP);have VB7:=Lh (show Var w7 (w.heap.size+1) b (Jo ⟨p,0,Jn⟩) k by rw[←hw7];exact(VB6.out.held HQ6.out (by omega) _ _).held hr6 (by omega) _ _);have I1:=Lh (show Jj 0 w7 (Ja #[Ji Jl qa,Jp qP]) (Jx sb (z.natAbs/k.natAbs))by rw[←hw7];exact((Hi5.out.keep h6).held HQ6.out _ _).held hr6 _ _);have I2:=Lh (show Jj 0 w7 (Ja #[Ji Jl ra,Jp rP]) (Jx bz (z.natAbs%k.natAbs))by rw[←hw7];exact(hi6.held HQ6.out _ _).held hr6 _ _);have K7:=Lh (show Below w.heap.size w w7 by rw[←hw7];exact Jg (Jg K6.out (by omega) _ _) (by omega) _ _);have f0:=HQ6.out.f0;have f1:=HQ6.out.f1;have g0:=HR6.out.f0;have g1:=HR6.out.f1;have i0:=HQ6.out.c0;have i1:=HQ6.out.c1;have j0:=HR6.out.c0;have j1:=HR6.out.c1;clear h6 hi6 hr6 hq6;by_cases hkeep:n2=0\/sb=false
  · have Hdm:=Lh (show DM z k (Jx sb (z.natAbs / k.natAbs)) (Jx bz (z.natAbs % k.natAbs)) by
      have:=Gn (z:=z) (k:=k) rfl rfl Hk0.out (by
        rcases hkeep with h|h
        · exact .inl (Hn2.out.1 h)
        · rw [← Hsb.out,← Hbz.out,← Hbk.out] at h; exact .inr h)
      rw[Hbz.out,Hbk.out,Hsb.out]at this;exact this)
    by_cases hn0:n2=0
    · subst hn0
      clear hkeep;go_wp2_with fail
      clear f0 f1 g0 g1 i0 i1 j0 j1 hw7;have f0:=HQ7.out.f0;have f1:=HQ7.out.f1;have g0:=HR7.out.f0;have g1:=HR7.out.f1;have i0:=HQ7.out.c0;have i1:=HQ7.out.c1;have j0:=HR7.out.c0;have j1:=HR7.out.c1;have hr8:=HR7.out.other (p:=w.heap.size+2) (by omega) (Ji Jl qa) (Jp qP);have J1:=Lh (((I1.out.held HQ7.out (Ji Jl qa) (Jp qP)).held hr8 (Ji Jl ra) (Jp rP)).keep (below_drewN (E4 _ _) 1));have J2:=Lh (((I2.out.held HQ7.out (Ji Jl qa) (Jp qP)).held hr8 (Ji Jl ra) (Jp rP)).keep (below_drewN (E4 _ _) 1));have K8:=Lh (below_drewN (Jg (Jg K7.out (show w.heap.size<=w.heap.size+2 by omega) (Ji Jl qa) (Jp qP)) (show w.heap.size<=w.heap.size+3 by omega) (Ji Jl ra) (Jp rP)) 1);clear hr8;go_region
      all_goals
        go_wp2_with fail
        exact bodyPost_ret (v:= .tuple #[Ja #[Ji Jl qa,Jp qP],Ja #[Ji Jl ra,Jp rP],Ji Jl 0]) (by simp[results,Tryz.results86,go_sem,i0,i1,j0,j1]) rfl ⟨qa,qP,ra,rP,_,_,rfl,J1.out,J2.out,Hdm.out,K8.out⟩
    · have hn20:0<n2:=by omega
      obtain rfl:sb=false:=hkeep.elim (fun h=>absurd h hn0) (fun h=>h);clear hkeep hn0;go_wp2_with fail
      clear f0 f1 g0 g1 i0 i1 j0 j1 hw7;have f0:=HQ7.out.f0;have f1:=HQ7.out.f1;have g0:=HR7.out.f0;have g1:=HR7.out.f1;have i0:=HQ7.out.c0;have i1:=HQ7.out.c1;have j0:=HR7.out.c0;have j1:=HR7.out.c1;have hr8:=HR7.out.other (p:=w.heap.size+2) (by omega) (Ji Jl qa) (Jp qP);have J1:=Lh (((I1.out.held HQ7.out (Ji Jl qa) (Jp qP)).held hr8 (Ji Jl ra) (Jp rP)).keep (below_drewN (E4 _ _) 1));have J2:=Lh (((I2.out.held HQ7.out (Ji Jl qa) (Jp qP)).held hr8 (Ji Jl ra) (Jp rP)).keep (below_drewN (E4 _ _) 1));have K8:=Lh (below_drewN (Jg (Jg K7.out (show w.heap.size<=w.heap.size+2 by omega) (Ji Jl qa) (Jp qP)) (show w.heap.size<=w.heap.size+3 by omega) (Ji Jl ra) (Jp rP)) 1);clear hr8;go_region
      all_goals
        go_wp2_with fail
        exact bodyPost_ret (v:= .tuple #[Ja #[Ji Jl qa,Jp qP],Ja #[Ji Jl ra,Jp rP],Ji Jl 0]) (by simp[results,Tryz.results86,go_sem,i0,i1,j0,j1]) rfl ⟨qa,qP,ra,rP,_,_,rfl,J1.out,J2.out,Hdm.out,K8.out⟩
  · have hn20:0<n2:=by omega
    obtain rfl:sb=true:=by cases sb <;> simp_all
    clear hkeep;have Hdm:=Lh (show DM z k (Jx true (z.natAbs / k.natAbs) - 1) (Jx bz (z.natAbs % k.natAbs)+k) by
      have hb:(decide (z<0) !=decide (k<0))=true:=by rw[Hbz.out,Hbk.out];exact Hsb.out
      have:=Gm (z:=z) (k:=k) rfl rfl Hk0.out (fun h0=>by have:=Hn2.out.2 h0;omega) hb;rw[hb,Hbz.out]at this;exact this)
    have Lq:=Lh (show (Jx true (z.natAbs / k.natAbs)).natAbs<base 400 by
      rw [QP]; exact E6 (E9 _ _) (Jq Hlz.out (by decide)))
    have Lr:=Lh (show (Jx bz (z.natAbs % k.natAbs)).natAbs<base 400 by
      rw [QP]; exact E6 (Nat.mod_le _ _) (Jq Hlz.out (by decide)))
    have Hsub:=Lh (fun v (hb:Below w7.heap.size w7 v)=>VX qa 1 qP Jn _ 1 v (I1.out.keep hb) (.inl ⟨⟨by decide,by decide⟩,rfl⟩) Lq.out (by decide +kernel));have Hadd:=Lh (fun v (hb:Below w7.heap.size w7 v)=>UR ra b rP (Jo ⟨p,0,Jn⟩) _ k v (I2.out.keep hb) (VB7.out.int.keep hb) Lr.out (Jq Hlk.out (by decide)));have HS:=Lh (fun v (hb:Below w7.heap.size w7 v)=>X9 HQ7.out HR7.out VB7.out hb);obtain⟨zq,hzq⟩:∃zq,Jx true (z.natAbs/k.natAbs)=zq:=⟨_,rfl⟩;obtain⟨zr,hzr⟩:∃zr,Jx bz (z.natAbs%k.natAbs)=zr:=⟨_,rfl⟩;rw[hzq]at Hdm Hsub;rw[hzr]at Hdm Hadd;clear hzq hzr;go_wp2_with fail
    clear f0 f1 g0 g1 i0 i1 j0 j1 hw7;refine Till.begin 6 (fun v=>v.cell? ⟨w.heap.size+2,0,Jn⟩=Jo (Ji Jl qa)/\v.cell? ⟨w.heap.size+2,1,Jn⟩=Jo (Jp qP)/\v.cell? ⟨w.heap.size+3,0,Jn⟩=Jo (Ji Jl ra)/\v.cell? ⟨w.heap.size+3,1,Jn⟩=Jo (Jp rP)/\v.cell? ⟨w.heap.size+1,0,Jn⟩=Jo (Ji Jl b)/\v.cell? ⟨w.heap.size+1,1,Jn⟩=Jo (Jp (Jo ⟨p,0,Jn⟩))) (by kernel_rfl) (HS.out _ (below_drewN (E4 _ _) 1)) (fun hH=>?_);refine Till.tk 0 2 95 (Ja #[Ji Jl qa,Jp qP]) hH ?_;try simp only[E5,Pls]
    refine Till.tk 3 5 98 (Ja #[Ji Jl ra,Jp rP]) hH ?_;try simp only[E5,Pls]
    refine Till.tk 4 5 99 (Ja #[Ji Jl b,Jp (Jo ⟨p,0,Jn⟩)]) hH ?_;try simp only[E5,Pls]
    clear hH;refine Till.one (i:=1) (by kernel_rfl) rfl (fun K hK=>?_);go_simp;refine(Ye 1 _).mono ?_;rintro e v1⟨rfl,g1⟩;have B1:=Lh (Jd (below_drewN (E4 w7.heap.size w7) 1) g1);clear g1;go_wp2_with fail
    refine hK.out _ _ (fun _=>HS.out _ B1.out) ?_;clear hK K;try simp only[E5,Pls]
    refine Till.one (i:=2) (by kernel_rfl) rfl (fun K hK=>?_);go_simp;refine(Hsub.out _ B1.out).mono ?_;rintro e v2⟨sa,sP,rfl,hs,g2⟩;have B2:=Lh (Jd B1.out g2);have Hs2':=Lh hs;clear g2 hs;go_wp2_with fail
    refine hK.out _ _ (fun _=>HS.out _ B2.out) ?_;clear hK K;try simp only[E5,Pls]
    refine Till.one (i:=5) (by kernel_rfl) rfl (fun K hK=>?_);go_simp;refine(Hadd.out _ B2.out).mono ?_;rintro e v3⟨ta,tP,rfl,ht,g3⟩;have B3:=Lh (Jd B2.out g3);have Hs3:=Lh (Hs2'.out.keep g3);have Ht3:=Lh ht;clear g3 ht;go_wp2_with fail
    refine hK.out _ _ (fun _=>HS.out _ B3.out) ?_;clear hK K;try simp only[E5,Pls]
    have HQ8:=Lh (HQ7.out.keep B3.out);have HR8:=Lh (HR7.out.keep B3.out);have f0:=HQ8.out.f0;have f1:=HQ8.out.f1;have g0:=HR8.out.f0;have g1:=HR8.out.f1;have i0:=HQ8.out.c0;have i1:=HQ8.out.c1;have j0:=HR8.out.c0;have j1:=HR8.out.c1;refine Till.one (i:=6) (by kernel_rfl) rfl (fun K hK=>?_);go_simp;refine hK.out _ _ (fun h=>absurd h (by simp)) ?_;clear hK K;try simp only[E5,Pls]
    refine Till.one (i:=7) (by kernel_rfl) rfl (fun K hK=>?_);go_simp;refine hK.out _ _ (fun h=>absurd h (by simp)) ?_;clear hK K;try simp only[E5,Pls]
    refine Till.done (by kernel_rfl) ?_ _;have hr9:=HR8.out.other (p:=w.heap.size+2) (by omega) (Ji Jl sa) (Jp sP);have hq9:=HQ8.out.store sa sP;obtain⟨w9,hw9⟩:∃w9,((((v3.setCell ⟨w.heap.size+1+1,0,Jn⟩ (Ji Jl sa)).setCell ⟨w.heap.size+1+1,1,Jn⟩ (Jp sP)).setCell ⟨w.heap.size+1+1+1,0,Jn⟩ (Ji Jl ta)).setCell ⟨w.heap.size+1+1+1,1,Jn⟩ (Jp tP))=w9:=⟨_,rfl⟩;rw[hw9];have HQ9:=Lh (show Hold w9 (w.heap.size+2) sa sP by rw[←hw9];exact hq9.other (by omega) _ _);have HR9:=Lh (show Hold w9 (w.heap.size+3) ta tP by rw[←hw9];exact hr9.store ta tP);have I3:=Lh (show Jj 0 w9 (Ja #[Ji Jl sa,Jp sP]) (zq-1)by rw[←hw9];exact(Hs3.out.held HQ8.out _ _).held hr9 _ _);have I4:=Lh (show Jj 0 w9 (Ja #[Ji Jl ta,Jp tP]) (zr+k)by rw[←hw9];exact(Ht3.out.held HQ8.out _ _).held hr9 _ _);have K9:=Lh (show Below w.heap.size w w9 by rw[←hw9];exact Jg (Jg (Jd K7.out B3.out) (by omega) _ _) (by omega) _ _);clear hr9 hq9 f0 f1 g0 g1 i0 i1 j0 j1;go_wp2_with fail
    clear hw9;have f0:=HQ9.out.f0;have f1:=HQ9.out.f1;have g0:=HR9.out.f0;have g1:=HR9.out.f1;have i0:=HQ9.out.c0;have i1:=HQ9.out.c1;have j0:=HR9.out.c0;have j1:=HR9.out.c1;have hr8:=HR9.out.other (p:=w.heap.size+2) (by omega) (Ji Jl sa) (Jp sP);have J1:=Lh (((I3.out.held HQ9.out (Ji Jl sa) (Jp sP)).held hr8 (Ji Jl ta) (Jp tP)).keep (below_drewN (E4 _ _) 1));have J2:=Lh (((I4.out.held HQ9.out (Ji Jl sa) (Jp sP)).held hr8 (Ji Jl ta) (Jp tP)).keep (below_drewN (E4 _ _) 1));have K8:=Lh (below_drewN (Jg (Jg K9.out (show w.heap.size<=w.heap.size+2 by omega) (Ji Jl sa) (Jp sP)) (show w.heap.size<=w.heap.size+3 by omega) (Ji Jl ta) (Jp tP)) 1);clear hr8;go_region
    all_goals
      go_wp2_with fail
      exact bodyPost_ret (v:= .tuple #[Ja #[Ji Jl sa,Jp sP],Ja #[Ji Jl ta,Jp tP],Ji Jl 0]) (by simp[results,Tryz.results86,go_sem,i0,i1,j0,j1]) rfl ⟨sa,sP,ta,tP,_,_,rfl,J1.out,J2.out,Hdm.out,K8.out⟩
theorem OE{a b:Int}(ha:-9223372036854775807<=a/\a<=9223372036854775807)(hb:b≠0):∃q r:Int,a.tdiv b=q/\a.tmod b=r/\a=q*b+r/\-9223372036854775807<=q/\q<=9223372036854775807/\r.natAbs<b.natAbs/\(0<r->0<a)/\(r<0->a<0):=by
  refine⟨a.tdiv b,a.tmod b,rfl,rfl,?_,?_,?_,?_,?_,?_⟩
  · have:=Int.mul_tdiv_add_tmod a b
    rw[Int.mul_comm]at this;omega
  · have h1:(a.tdiv b).natAbs<=a.natAbs:=by rw[Int.natAbs_tdiv];exact E9 _ _
    omega
  · have h1:(a.tdiv b).natAbs<=a.natAbs:=by rw[Int.natAbs_tdiv];exact E9 _ _
    omega
  · have:(a.tmod b).natAbs=a.natAbs%b.natAbs:=Int.natAbs_tmod a b
    rw[this];exact Nat.mod_lt _ (by omega)
  · intro h
    rcases Int.lt_or_le 0 a with h1|h1
    · exact h1
    · have:=Int.tmod_nonneg (a:=-a) b (by omega)
      rw[Int.neg_tmod]at this;omega
  · intro h
    rcases Int.lt_or_le a 0 with h1|h1
    · exact h1
    · have:=Int.tmod_nonneg (a:=a) b h1
      omega
theorem Gq(a b:Int)(w:JW)(ha:-9223372036854775807<=a/\a<=9223372036854775807)(hb:I64 b)(hb0:b≠0) :
    Calls Tryz.prog 86 #[JN a,JN b] w (UX a b w):=by
  obtain⟨q,r,hq,hr,hqr,hq1,hq2,hrb,hr1,hr2⟩:=OE ha hb0;have hsgn:sgn b≠0:=by unfold sgn;split <;> (try split) <;> omega
  obtain⟨x,hx⟩:∃x,sgn b=x:=⟨_,rfl⟩;have Hs:=Lh (fun w=>GS b w);rw[hx]at Hs hsgn;have t0:(x ==0)=false:=by rw[beq_eq_false_iff_ne];exact hsgn
  have t1:(a == -9223372036854775808)=false:=by rw[beq_eq_false_iff_ne];omega
  have t2:(b ==0)=false:=by rw[beq_eq_false_iff_ne];exact hb0
  unfold I64 at hb;obtain⟨w0,hw0⟩:∃w0,w0=(((w.alloc (Jc #[Ji Jl a,Jp Jn] 29)).alloc (Jc #[Ji Jl b,Jp Jn] 29)).alloc (Jc #[Ji Jl 0,Jp Jn] 29)).alloc (Jc #[Ji Jl 0,Jp Jn] 29):=⟨_,rfl⟩;obtain⟨va,vb,hq',hr',kk⟩:=Uq (w:=w) (a:=a) (b:=b) (z:=a) (k:=b) (.inl ⟨⟨by omega,by omega⟩,rfl⟩) (.inl ⟨⟨by omega,by omega⟩,rfl⟩) hw0;have VA:=Lh va;have VB:=Lh vb;have HQ:=Lh hq';have HR:=Lh hr';have KK:=Lh kk;have Hw0:=Lh hw0;have Hqr:=Lh hqr;have ha1:=ha.1;have ha2:=ha.2;have hb1:=hb.1;have hb2:=hb.2;have hab:(r.natAbs:Int)<b.natAbs:=by omega
  clear hsgn hx va vb hq' hr' kk hw0 hqr ha hb;rcases Int.lt_trichotomy r 0 with h|h|h
  · have u0:(r ==0)=false:=by rw[beq_eq_false_iff_ne];omega
    rcases Int.lt_or_lt_of_ne hb0 with hbb|hbb
    · have hneg:b<0:=hbb
      have u3:(r !=0)=true:=by rw[bne_iff_ne];omega
      have d1:decide (r<0)=true:=decide_eq_true (by omega);have d2:decide (b<0)=true:=decide_eq_true (by omega);have d3:(!decide (b<0))=false:=by rw[d2];rfl
      have Hdm:=Lh (show DM a b q r from⟨by have:=Hqr.out;omega,by omega⟩);have Hiq:=Lh (show I64 q from⟨by omega,by omega⟩);have Hir:=Lh (show I64 r from⟨by omega,by omega⟩);clear hab hr1 hr2;go_enter Tryz.func86,Tryz.ntmps86;go_wp2_with fail
      refine(Hs.out _).mono ?_;rintro e w1⟨rfl,h1⟩;have h1':=h1;rw[←Hw0.out]at h1';have VA1:=Lh (VA.out.keep h1');have VB1:=Lh (VB.out.keep h1');have HQ1:=Lh (HQ.out.keep h1');have HR1:=Lh (HR.out.keep h1');have K1:=Lh (Jd KK.out h1');have va0:=VA1.out.c0;have va1:=VA1.out.c1;have vb0:=VB1.out.c0;have vb1:=VB1.out.c1;have f0:=HQ1.out.f0;have f1:=HQ1.out.f1;have g0:=HR1.out.f0;have g1:=HR1.out.f1;have i0:=HQ1.out.c0;have i1:=HQ1.out.c1;have j0:=HR1.out.c0;have j1:=HR1.out.c1;clear h1 h1';go_wp2_with fail
      go_quiet (fail)
      go_wp2_with fail
      exact bodyPost_ret (v:= .tuple #[JN q,JN r,Ji Jl 0]) (by simp[results,Tryz.results86,go_sem,i0,i1,j0,j1]) rfl ⟨q,Jn,r,Jn,q,r,rfl,.inl ⟨Hiq.out,rfl⟩,.inl ⟨Hir.out,rfl⟩,Hdm.out,by repeat (first|exact K1.out|refine EY ?_ (by first|exact E7 _|(simp <;> omega)) _|refine below_drewN ?_ _)⟩
    · have hpos:¬b<0:=by omega
      have u3:(r !=0)=true:=by rw[bne_iff_ne];omega
      have d1:decide (r<0)=true:=decide_eq_true (by omega);have d2:decide (b<0)=false:=decide_eq_false (by omega);have d3:(!decide (b<0))=true:=by rw[d2];rfl
      have Hdm:=Lh (show DM a b (q-1) (r+b)from⟨by have:=Hqr.out;rw[Int.sub_mul,Int.one_mul];omega,by omega⟩);have Hiq:=Lh (show I64 (q-1)from⟨by omega,by omega⟩);have Hir:=Lh (show I64 (r+b)from⟨by omega,by omega⟩);have s1:-9223372036854775808<=r+b:=by omega
      have s2:r+b<=9223372036854775807:=by omega
      clear hab hr1 hr2;go_enter Tryz.func86,Tryz.ntmps86;go_wp2_with fail
      refine(Hs.out _).mono ?_;rintro e w1⟨rfl,h1⟩;have h1':=h1;rw[←Hw0.out]at h1';have VA1:=Lh (VA.out.keep h1');have VB1:=Lh (VB.out.keep h1');have HQ1:=Lh (HQ.out.keep h1');have HR1:=Lh (HR.out.keep h1');have K1:=Lh (Jd KK.out h1');have va0:=VA1.out.c0;have va1:=VA1.out.c1;have vb0:=VB1.out.c0;have vb1:=VB1.out.c1;have f0:=HQ1.out.f0;have f1:=HQ1.out.f1;have g0:=HR1.out.f0;have g1:=HR1.out.f1;have i0:=HQ1.out.c0;have i1:=HQ1.out.c1;have j0:=HR1.out.c0;have j1:=HR1.out.c1;clear h1 h1';go_wp2_with fail
      go_quiet (fail)
      go_wp2_with fail
      go_quiet (fail)
      go_wp2_with fail
      exact bodyPost_ret (v:= .tuple #[JN (q-1),JN (r+b),Ji Jl 0]) (by simp[results,Tryz.results86,go_sem,i0,i1,j0,j1]) rfl ⟨(q-1),Jn,(r+b),Jn,(q-1),(r+b),rfl,.inl ⟨Hiq.out,rfl⟩,.inl ⟨Hir.out,rfl⟩,Hdm.out,by repeat (first|exact K1.out|refine EY ?_ (by first|exact E7 _|(simp <;> omega)) _|refine below_drewN ?_ _)⟩
  · subst h
    have Hdm:=Lh (show DM a b q 0 from⟨by have:=Hqr.out;omega,by omega⟩);have Hiq:=Lh (show I64 q from⟨by omega,by omega⟩);have Hir:=Lh (show I64 0 from⟨by omega,by omega⟩);clear hab hr1 hr2;go_enter Tryz.func86,Tryz.ntmps86;go_wp2_with fail
    refine(Hs.out _).mono ?_;rintro e w1⟨rfl,h1⟩;have h1':=h1;rw[←Hw0.out]at h1';have VA1:=Lh (VA.out.keep h1');have VB1:=Lh (VB.out.keep h1');have HQ1:=Lh (HQ.out.keep h1');have HR1:=Lh (HR.out.keep h1');have K1:=Lh (Jd KK.out h1');have va0:=VA1.out.c0;have va1:=VA1.out.c1;have vb0:=VB1.out.c0;have vb1:=VB1.out.c1;have f0:=HQ1.out.f0;have f1:=HQ1.out.f1;have g0:=HR1.out.f0;have g1:=HR1.out.f1;have i0:=HQ1.out.c0;have i1:=HQ1.out.c1;have j0:=HR1.out.c0;have j1:=HR1.out.c1;clear h1 h1';go_wp2_with fail
    go_quiet (fail)
    go_wp2_with fail
    exact bodyPost_ret (v:= .tuple #[JN q,JN 0,Ji Jl 0]) (by simp[results,Tryz.results86,go_sem,i0,i1,j0,j1]) rfl ⟨q,Jn,0,Jn,q,0,rfl,.inl ⟨Hiq.out,rfl⟩,.inl ⟨Hir.out,rfl⟩,Hdm.out,by repeat (first|exact K1.out|refine EY ?_ (by first|exact E7 _|(simp <;> omega)) _|refine below_drewN ?_ _)⟩
  · have u0:(r ==0)=false:=by rw[beq_eq_false_iff_ne];omega
    have u1:¬r<0:=by omega
    rcases Int.lt_or_lt_of_ne hb0 with hbb|hbb
    · have hneg:b<0:=hbb
      have u3:(r !=0)=true:=by rw[bne_iff_ne];omega
      have d1:decide (r<0)=false:=decide_eq_false (by omega);have d2:decide (b<0)=true:=decide_eq_true (by omega);have d3:(!decide (b<0))=false:=by rw[d2];rfl
      have Hdm:=Lh (show DM a b (q-1) (r+b)from⟨by have:=Hqr.out;rw[Int.sub_mul,Int.one_mul];omega,by omega⟩);have Hiq:=Lh (show I64 (q-1)from⟨by omega,by omega⟩);have Hir:=Lh (show I64 (r+b)from⟨by omega,by omega⟩);have s1:-9223372036854775808<=r+b:=by omega
      have s2:r+b<=9223372036854775807:=by omega
      clear hab hr1 hr2;go_enter Tryz.func86,Tryz.ntmps86;go_wp2_with fail
      refine(Hs.out _).mono ?_;rintro e w1⟨rfl,h1⟩;have h1':=h1;rw[←Hw0.out]at h1';have VA1:=Lh (VA.out.keep h1');have VB1:=Lh (VB.out.keep h1');have HQ1:=Lh (HQ.out.keep h1');have HR1:=Lh (HR.out.keep h1');have K1:=Lh (Jd KK.out h1');have va0:=VA1.out.c0;have va1:=VA1.out.c1;have vb0:=VB1.out.c0;have vb1:=VB1.out.c1;have f0:=HQ1.out.f0;have f1:=HQ1.out.f1;have g0:=HR1.out.f0;have g1:=HR1.out.f1;have i0:=HQ1.out.c0;have i1:=HQ1.out.c1;have j0:=HR1.out.c0;have j1:=HR1.out.c1;clear h1 h1';go_wp2_with fail
      go_quiet (fail)
      go_wp2_with fail
      go_quiet (fail)
      go_wp2_with fail
      exact bodyPost_ret (v:= .tuple #[JN (q-1),JN (r+b),Ji Jl 0]) (by simp[results,Tryz.results86,go_sem,i0,i1,j0,j1]) rfl ⟨(q-1),Jn,(r+b),Jn,(q-1),(r+b),rfl,.inl ⟨Hiq.out,rfl⟩,.inl ⟨Hir.out,rfl⟩,Hdm.out,by repeat (first|exact K1.out|refine EY ?_ (by first|exact E7 _|(simp <;> omega)) _|refine below_drewN ?_ _)⟩
    · have hpos:¬b<0:=by omega
      have u3:(r !=0)=true:=by rw[bne_iff_ne];omega
      have d1:decide (r<0)=false:=decide_eq_false (by omega);have d2:decide (b<0)=false:=decide_eq_false (by omega);have d3:(!decide (b<0))=true:=by rw[d2];rfl
      have Hdm:=Lh (show DM a b q r from⟨by have:=Hqr.out;omega,by omega⟩);have Hiq:=Lh (show I64 q from⟨by omega,by omega⟩);have Hir:=Lh (show I64 r from⟨by omega,by omega⟩);clear hab hr1 hr2;go_enter Tryz.func86,Tryz.ntmps86;go_wp2_with fail
      refine(Hs.out _).mono ?_;rintro e w1⟨rfl,h1⟩;have h1':=h1;rw[←Hw0.out]at h1';have VA1:=Lh (VA.out.keep h1');have VB1:=Lh (VB.out.keep h1');have HQ1:=Lh (HQ.out.keep h1');have HR1:=Lh (HR.out.keep h1');have K1:=Lh (Jd KK.out h1');have va0:=VA1.out.c0;have va1:=VA1.out.c1;have vb0:=VB1.out.c0;have vb1:=VB1.out.c1;have f0:=HQ1.out.f0;have f1:=HQ1.out.f1;have g0:=HR1.out.f0;have g1:=HR1.out.f1;have i0:=HQ1.out.c0;have i1:=HQ1.out.c1;have j0:=HR1.out.c0;have j1:=HR1.out.c1;clear h1 h1';go_wp2_with fail
      go_quiet (fail)
      go_wp2_with fail
      exact bodyPost_ret (v:= .tuple #[JN q,JN r,Ji Jl 0]) (by simp[results,Tryz.results86,go_sem,i0,i1,j0,j1]) rfl ⟨q,Jn,r,Jn,q,r,rfl,.inl ⟨Hiq.out,rfl⟩,.inl ⟨Hir.out,rfl⟩,Hdm.out,by repeat (first|exact K1.out|refine EY ?_ (by first|exact E7 _|(simp <;> omega)) _|refine below_drewN ?_ _)⟩
theorem X0(a b:Int)(P Q:Option Addr)(z k:Int)(w:JW)(h:Jj 0 w (Ja #[Ji Jl a,Jp P]) z)(h':Jj 0 w (Ja #[Ji Jl b,Jp Q]) k)(hk0:k≠0)(hlz:z.natAbs<base 390)(hlk:k.natAbs<base 390) :
    Calls Tryz.prog 86 #[Ja #[Ji Jl a,Jp P],Ja #[Ji Jl b,Jp Q]] w (UX z k w):=by
  rcases h.ways with⟨hz,e⟩|⟨hz,p,e,_,_⟩
  · obtain⟨rfl,rfl⟩:=Q9 e
    rcases h'.ways with⟨hk,e'⟩|⟨hk,q,e',_,_⟩
    · obtain⟨rfl,rfl⟩:=Q9 e'
      by_cases hmin:a=-9223372036854775808
      · subst hmin
        exact Gs b _ b w h h' hk0 hlz hlk
      · exact Gq a b w ⟨by have:=hz.1;omega,hz.2⟩ hk hk0
    · obtain⟨rfl,rfl⟩:b=0/\Q=Jo ⟨q,0,Jn⟩:=by simpa using e'
      exact Gr a 0 q a k w h h' hk0 hlz hlk
  · obtain⟨rfl,rfl⟩:a=0/\P=Jo ⟨p,0,Jn⟩:=by simpa using e
    exact Gt b p Q z k w h h' hk0 hlz hlk
