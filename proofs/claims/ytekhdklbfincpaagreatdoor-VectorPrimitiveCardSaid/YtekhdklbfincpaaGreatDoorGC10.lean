/- GC10: Arith -/
import Derived.Test.YtekhdklbfincpaaGreatDoorGC08
import Derived.Laws.BitsAllLaws
import Derived.Test.YtekhdklbfincpaaGreatDoorGC09
set_option maxRecDepth 100000
set_option maxHeartbeats 16000000
namespace Go.Proofs.YtekhdklbfincpaaGreatDoor
open Go.Value renaming pointer→Jp,int→Ji
open Go.IntKind renaming i64→Jl
open _root_.Option renaming none→Jn
open Go renaming World→JW
open _root_.BitVec renaming ofInt→M0
open Go.World renaming cell?_of_block→M1,frozen?→M2
open Go.RowKit
theorem EK(x:BitVec 64):IntKind.i64.wrap (x.toNat:Int)=x.toInt:=by
 have:=x.isLt;rw[BitVec.toInt_eq_toNat_cond];simp[IntKind.wrap,IntKind.bits,IntKind.signed]
 split <;> omega
theorem Mc{a:Int}(h:I64 a):(M0 64 a).toInt=a:=by
 unfold I64 at h;rw[BitVec.toInt_ofInt];unfold Int.bmod;simp;omega
theorem EC{a:Int}(h:I64 a):(M0 64 a).msb=decide (a<0):=by
 rw[BitVec.msb_eq_toInt,Mc h]
theorem DC(a b:Int):bits .xor Jl a b=(M0 64 a ^^^ M0 64 b).toInt:=by
 show IntKind.i64.wrap ((M0 64 a ^^^ M0 64 b).toNat:Int)=_;exact EK _
theorem Mf(a b:Int):bits .and Jl a b=(M0 64 a &&& M0 64 b).toInt:=by
 show IntKind.i64.wrap ((M0 64 a &&& M0 64 b).toNat:Int)=_;exact EK _
theorem Zs{a b s:Int}(ha:I64 a)(hb:I64 b)(hs:I64 s):decide (bits .and Jl (bits .xor Jl a s) (bits .xor Jl b s)<0)=((decide (a<0) ^^ decide (s<0)) && (decide (b<0) ^^ decide (s<0))):=by
 rw[DC,DC,Mf,BitVec.ofInt_toInt,BitVec.ofInt_toInt,←BitVec.msb_eq_toInt,BitVec.msb_and,BitVec.msb_xor,BitVec.msb_xor,EC ha,EC hb,EC hs]
def Qt(z:Int)(w:JW)(e:Ending)(w':JW):Prop:=
 ∃(a:Int) (P:Option Addr),e= .returned (.agg #[Ji Jl a,Jp P])/\Jq 0 w' (.agg #[Ji Jl a,Jp P]) z/\Below w.heap.size w w'
theorem JH{A:Option Addr}{n c m:Nat}{xs:List Nat}(neg:Bool)(z:Int)(w:JW){B:Nat}(h:JC B w A n c xs m)(hz:Jk neg m=z) :
  Calls Tryz.prog 104 #[.slice A n c,.bool neg] w (Qt z w):=by
 refine(UZ 0 A n c xs neg w h.isl h.words h.tight h.len h.cap (Nat.zero_le _) (fun _ _=>Nat.zero_le _)).mono ?_;rintro e w' ⟨v,rfl,hv,hb⟩;obtain⟨a,P,rfl⟩:=Jq.form hv;rw[h.val,hz]at hv;exact⟨a,P,rfl,hv,hb⟩
theorem Qt.cast{z k:Int}{w w':JW}{e:Ending}(h:Qt z w e w')(hz:z=k):Qt k w e w':=hz ▸ h
theorem Jd{w0 w w':JW}(h:Below w0.heap.size w0 w)(h':Below w.heap.size w w'):Below w0.heap.size w0 w':=h.trans (h'.mono h.size)
theorem UU(w:JW)(o:Obj):(w.alloc o).heap[w.heap.size]?=some o:=by
 show(w.heap.push o)[w.heap.size]?=some o;rw[Array.getElem?_push,if_pos rfl]
structure Res (w:JW) (p:Nat):Prop where
 at_:w.heap[p]?=some (.cells #[Ji Jl 0,Jp Jn] 28 (0,0))
theorem Res.new(w:JW):Res (w.alloc (.cells #[Ji Jl 0,Jp Jn] 28)) w.heap.size:=⟨UU w _⟩
theorem Res.keep{w w':JW}{p:Nat}(h:Res w p)(hb:Below w.heap.size w w'):Res w' p:=by
 have hlt:p<w.heap.size:=by
  rcases Nat.lt_or_ge p w.heap.size with h1|h1
  ·exact h1
  ·have:=h.at_;rw[Array.getElem?_eq_none h1]at this;cases this
 exact⟨(hb.block p hlt).trans h.at_⟩
theorem Res.k0{w:JW}{p:Nat}(h:Res w p):w.cell? ⟨p,0,Jn⟩=some (Ji Jl 0):=by rw[cell_of_row _ _ _ _ _ _ h.at_];rfl
theorem Res.k1{w:JW}{p:Nat}(h:Res w p):w.cell? ⟨p,1,Jn⟩=some (Jp Jn):=by rw[cell_of_row _ _ _ _ _ _ h.at_];rfl
theorem Res.f0{w:JW}{p:Nat}(h:Res w p):w.frozen? ⟨p,0,Jn⟩=false:=by simp only[M2,h.at_];rfl
theorem Res.f1{w:JW}{p:Nat}(h:Res w p):w.frozen? ⟨p,1,Jn⟩=false:=by simp only[M2,h.at_];rfl
theorem Jq.res{w w':JW}{v:Value}{z:Int}{p:Nat}(h:Jq 0 w v z)(hr:Res w p)(hs:w'.heap.size=w.heap.size)(hk:∀k,k≠p->w'.heap[k]?=w.heap[k]?):Jq 0 w' v z:=by
 rcases h with h|⟨hz,q,A,n,c,xs,rfl,hq,hB,hA,c0,c1,hl,hc,hn,hw,ht,hv⟩
 ·exact .inl h
 ·have hqp:q≠p:=by
   intro e;subst e;rw[hr.k0]at c0;cases c0
  refine .inr ⟨hz,q,A,n,c,xs,rfl,by omega,hB,hA,(M1 (hk q hqp)).trans c0,(M1 (hk q hqp)).trans c1,⟨hl.1,hl.2.1,fun h0=>?_⟩,hc,hn,hw,ht,hv⟩;obtain⟨b,o,e,hb,hcell⟩:=hl.2.2 h0;have hlen:=hl.1;rw[Qi]at hlen;have hbp:b≠p:=by
   intro e2;subst e2;have h1:=hcell 0 (Ji .u64 ((xs.getD 0 0:Nat):Int)) (by simp[u64s,show 0<xs.length by omega]);rw[cell_of_row _ _ _ _ _ _ hr.at_]at h1
   match o,h1 with
   | 0,h1=>simp at h1
   | 1,h1=>simp at h1
   | o+2,h1=>simp at h1
  exact⟨b,o,e,by omega,fun j u hu=>(M1 (hk b hbp)).trans (hcell j u hu)⟩
theorem Jq.stored{w:JW}{v:Value}{z:Int}{p:Nat}(h:Jq 0 w v z)(hr:Res w p)(x y:Value):Jq 0 ((w.setCell ⟨p,0,Jn⟩ x).setCell ⟨p,1,Jn⟩ y) v z:=
 h.res hr (by simp[World.setCell]) (fun k hk=>(Below.heap_setCell (w.setCell ⟨p,0,Jn⟩ x) ⟨p,1,Jn⟩ y k hk).trans (Below.heap_setCell w ⟨p,0,Jn⟩ x k hk))
theorem Jg{w0 w:JW}{p:Nat}(h:Below w0.heap.size w0 w)(hp:w0.heap.size<=p)(x y:Value):Below w0.heap.size w0 ((w.setCell ⟨p,0,Jn⟩ x).setCell ⟨p,1,Jn⟩ y):=
 (h.setCell (p:=⟨p,0,Jn⟩) hp x).setCell (p:=⟨p,1,Jn⟩) hp y
theorem DY(z:Int):Jk (!decide (z<0)) z.natAbs=-z:=by
 unfold Jk;by_cases hz:z<0 <;> simp[hz] <;> omega
theorem VS{z k:Int}(h:decide (z<0)=decide (k<0)):Jk (decide (z<0)) (z.natAbs+k.natAbs)=z+k:=by
 unfold Jk;by_cases hz:z<0 <;> by_cases hk:k<0 <;> simp[hz,hk]at h ⊢ <;> omega
theorem Zz{z k:Int}(h:decide (z<0)≠decide (k<0))(hle:k.natAbs<=z.natAbs):Jk (decide (z<0)) (z.natAbs-k.natAbs)=z+k:=by
 unfold Jk;by_cases hz:z<0 <;> by_cases hk:k<0 <;> simp[hz,hk]at h ⊢ <;> omega
theorem Zy{z k:Int}(h:decide (z<0)≠decide (k<0))(hle:z.natAbs<k.natAbs):Jk (decide (k<0)) (k.natAbs-z.natAbs)=z+k:=by
 unfold Jk;by_cases hz:z<0 <;> by_cases hk:k<0 <;> simp[hz,hk]at h ⊢ <;> omega
theorem Vk(z k:Int):Jk (decide (z<0) !=decide (k<0)) (z.natAbs*k.natAbs)=z*k:=by
 rcases Int.natAbs_eq z with hz|hz <;> rcases Int.natAbs_eq k with hk|hk <;> unfold Jk
 all_goals
  have e:((z.natAbs*k.natAbs:Nat):Int)=(z.natAbs:Int)*(k.natAbs:Int):=by push_cast;rfl
  obtain⟨p,hp⟩:∃p:Nat,z.natAbs=p:=⟨_,rfl⟩;obtain⟨q,hq⟩:∃q:Nat,k.natAbs=q:=⟨_,rfl⟩;rw[hp]at hz e ⊢;rw[hq]at hk e ⊢;rw[e,hz,hk];rcases Nat.eq_zero_or_pos p with h0|h0
  ·subst h0;simp
  ·rcases Nat.eq_zero_or_pos q with h1|h1
   ·subst h1;simp
   ·first
     | rw[decide_eq_false (show ¬((p:Int)<0)by omega),decide_eq_false (show ¬((q:Int)<0)by omega)];simp
     | rw[decide_eq_false (show ¬((p:Int)<0)by omega),decide_eq_true (show(-(q:Int)<0)by omega)];simp[Int.mul_neg]
     | rw[decide_eq_true (show(-(p:Int)<0)by omega),decide_eq_false (show ¬((q:Int)<0)by omega)];simp[Int.neg_mul]
     | rw[decide_eq_true (show(-(p:Int)<0)by omega),decide_eq_true (show(-(q:Int)<0)by omega)];simp[Int.mul_neg,Int.neg_mul]
theorem Gv(a:Int)(P:Option Addr)(z:Int)(w:JW)(h:Jq 0 w (.agg #[Ji Jl a,Jp P]) z) :
  Calls Tryz.prog 67 #[.agg #[Ji Jl a,Jp P]] w (Qt (-z) w):=by
 obtain⟨bz,hbz⟩:∃bz,decide (z<0)=bz:=⟨_,rfl⟩;have kk:=((Below.refl w.heap.size w).alloc (Nat.le_refl _) (.cells #[Ji Jl a,Jp P] 28)).alloc (by simp) (.cells #[Ji Jl 0,Jp Jn] 28);have Hr:=Lh (Res.new (w.alloc (.cells #[Ji Jl a,Jp P] 28)));simp only[World.size_alloc]at Hr;have Hx:=Lh (JI _ z _ bz hbz (h.keep kk));have Kk:=Lh kk;have Hs:=Lh (DY z);rw[hbz]at Hs;clear hbz kk;rcases h.ways with⟨hz,hv⟩|⟨hz,p,hv,hp,_⟩
 ·obtain⟨rfl,rfl⟩:a=z/\P=Jn:=by simpa[JP]using hv
  unfold I64 at hz;by_cases hmin:a=-9223372036854775808
  ·subst hmin;clear h hz hv;go_enter Tryz.func67,Tryz.ntmps67;go_wp2_with fail
   refine Hx.out.mono ?_;rintro e w1⟨A,n,c,xs,rfl,hx,h1⟩;have Hsg:=Lh (JH (!bz) _ w1 hx Hs.out);have K1:=Lh (Jd Kk.out h1);have R1:=Lh (Hr.out.keep h1);clear hx h1;go_wp2_with fail
   refine Hsg.out.mono ?_;rintro e w2⟨a',P',rfl,hi2,h2⟩;have R2:=Lh (R1.out.keep h2);have Hi2:=Lh (hi2.stored R2.out (Ji Jl a') (Jp P'));have K2:=Lh (Jg (Jd K1.out h2) (Nat.le_succ w.heap.size) (Ji Jl a') (Jp P'));have k0:=R2.out.k0;have k1:=R2.out.k1;have f0:=R2.out.f0;have f1:=R2.out.f1;clear hi2 h2;go_wp2;exact bodyPost_ret (v:= .agg #[Ji Jl a',Jp P']) (by simp[results,Tryz.results67,go_sem,k0,k1]) rfl ⟨a',P',rfl,Hi2.out,K2.out⟩
  ·have t0:(a == -9223372036854775808)=false:=by rw[beq_eq_false_iff_ne];exact hmin
   have Hfin:=Lh (show I64 (-a)from⟨by omega,by omega⟩);clear h hv;go_enter Tryz.func67,Tryz.ntmps67;go_wp2;exact bodyPost_ret (v:=JP (-a)) (by simp[results,Tryz.results67,go_sem]) rfl ⟨-a,Jn,rfl,.inl ⟨Hfin.out,rfl⟩,((Below.refl w.heap.size w).alloc (Nat.le_refl _) _).alloc (by simp) _⟩
 ·obtain⟨rfl,rfl⟩:a=0/\P=some ⟨p,0,Jn⟩:=by simpa using hv
  clear h hz hv;go_enter Tryz.func67,Tryz.ntmps67;go_wp2_with fail
  refine Hx.out.mono ?_;rintro e w1⟨A,n,c,xs,rfl,hx,h1⟩;have Hsg:=Lh (JH (!bz) _ w1 hx Hs.out);have K1:=Lh (Jd Kk.out h1);have R1:=Lh (Hr.out.keep h1);clear hx h1;go_wp2_with fail
  refine Hsg.out.mono ?_;rintro e w2⟨a',P',rfl,hi2,h2⟩;have R2:=Lh (R1.out.keep h2);have Hi2:=Lh (hi2.stored R2.out (Ji Jl a') (Jp P'));have K2:=Lh (Jg (Jd K1.out h2) (Nat.le_succ w.heap.size) (Ji Jl a') (Jp P'));have k0:=R2.out.k0;have k1:=R2.out.k1;have f0:=R2.out.f0;have f1:=R2.out.f1;clear hi2 h2;go_wp2;exact bodyPost_ret (v:= .agg #[Ji Jl a',Jp P']) (by simp[results,Tryz.results67,go_sem,k0,k1]) rfl ⟨a',P',rfl,Hi2.out,K2.out⟩
