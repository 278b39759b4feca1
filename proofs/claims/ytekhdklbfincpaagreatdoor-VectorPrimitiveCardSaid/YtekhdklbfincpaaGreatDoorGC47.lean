/- GC47: Vpz Vpy Vof -/
import Derived.Test.YtekhdklbfincpaaGreatDoorGC46
import Derived.Test.YtekhdklbfincpaaGreatDoorGC44
import Derived.Test.YtekhdklbfincpaaGreatDoorGC36
import Derived.Test.YtekhdklbfincpaaGreatDoorGC35
import Derived.Test.YtekhdklbfincpaaGreatDoorGC43
import Derived.Test.YtekhdklbfincpaaGreatDoorGC33
import Derived.Test.YtekhdklbfincpaaGreatDoorGC26
set_option maxRecDepth 100000
set_option maxHeartbeats 16000000
namespace Go.Proofs.YtekhdklbfincpaaGreatDoor
open Go.Value renaming pointer→Jp,int→Ji,string→Js
open Go.IntKind renaming i64→Jl
open Go.Obj renaming cells→Jc
open _root_.Option renaming none→Jn
open _root_.Rat renaming divInt→M0
open _root_.Nat renaming gcd→M1,lt_of_le_of_lt→M3,gcd_dvd_left→M4,le_refl→M5,gcd_dvd_right→M8,le_succ→M9
open Go.RowKit.Below renaming refl→M2
open _root_.Int renaming natAbs_mul→M6
open Go.Act renaming put→M7
open Go.RowKit
theorem EX{q0 q1 q2:Rat}(h:QW q0 q1 q2=false):0<ovK (qK q0 q1 q2) 3:=by
 rw[ovK3];refine Nat.pos_of_ne_zero fun e=>?_;obtain⟨e1,e2⟩:=Nat.gcd_eq_zero_iff.1 e;obtain⟨e0,e1⟩:=Nat.gcd_eq_zero_iff.1 e1;have z:∀ {q:Rat},q.num.natAbs=0->q=0:=fun h=>Rat.num_eq_zero.1 (Int.natAbs_eq_zero.1 h);have:QW q0 q1 q2=true:=Xv.2 ⟨z e0,z e1,z e2⟩;rw[h]at this;cases this
theorem NW{q0 q1 q2:Rat}(ho:0<ovK (qK q0 q1 q2) 3):M0 (unK (qK q0 q1 q2) 3) (ovK (qK q0 q1 q2) 3)≠0:=by
 intro e;rw[Rat.divInt_eq_div]at e;have hu:0<unK (qK q0 q1 q2) 3:=by rw[unK3];exact Nat.lcm_pos (Nat.lcm_pos q0.den_pos q1.den_pos) q2.den_pos
 have hO:(((ovK (qK q0 q1 q2) 3:Nat):Int):Rat)≠0:=by
  intro e;have:=Rat.intCast_inj.1 (show(((ovK (qK q0 q1 q2) 3:Nat):Int):Rat)=((0:Int):Rat)from e);omega
 have h:=Rat.div_mul_cancel (a:=(((unK (qK q0 q1 q2) 3:Nat):Int):Rat)) hO;rw[e,Rat.zero_mul]at h;have:=Rat.intCast_inj.1 (show((0:Int):Rat)=(((unK (qK q0 q1 q2) 3:Nat):Int):Rat)from h);omega
theorem Fz{q0 q1 q2:Rat}(h:QW q0 q1 q2=false):QW (M0 (unK (qK q0 q1 q2) 3) (ovK (qK q0 q1 q2) 3)*q0) (M0 (unK (qK q0 q1 q2) 3) (ovK (qK q0 q1 q2) 3)*q1) (M0 (unK (qK q0 q1 q2) 3) (ovK (qK q0 q1 q2) 3)*q2)=false:=by
 have hf:=NW (EX h);generalize M0 (unK (qK q0 q1 q2) 3) (ovK (qK q0 q1 q2) 3)=F at hf ⊢;cases hz:QW (F*q0) (F*q1) (F*q2)with
 | false=>rfl
 | true=>
  obtain⟨a,b,c⟩:=Xv.1 hz;have z:∀ {q:Rat},F*q=0->q=0:=fun h=>(Rat.mul_eq_zero.1 h).resolve_left hf;have:QW q0 q1 q2=true:=Xv.2 ⟨z a,z b,z c⟩;rw[h]at this;cases this
theorem Mk{q0 q1 q2:Rat}(h:QW q0 q1 q2=false):parV (M0 (unK (qK q0 q1 q2) 3) (ovK (qK q0 q1 q2) 3)*q0) (M0 (unK (qK q0 q1 q2) 3) (ovK (qK q0 q1 q2) 3)*q1) (M0 (unK (qK q0 q1 q2) 3) (ovK (qK q0 q1 q2) 3)*q2) q0 q1 q2=true:=by
 unfold parV;rw[Fz h,h];generalize M0 (unK (qK q0 q1 q2) 3) (ovK (qK q0 q1 q2) 3)=F;have:QW (F*q1*q2-F*q2*q1) (F*q2*q0-F*q0*q2) (F*q0*q1-F*q1*q0)=true:=Xv.2 ⟨by grind,by grind,by grind⟩;rw[this];rfl
theorem O9{q0 q1 q2:Rat}(ho:0<ovK (qK q0 q1 q2) 3):M0 (unK (qK q0 q1 q2) 3) (ovK (qK q0 q1 q2) 3)*q0=((((q0.num*((q1.den:Int)*(q2.den:Int)))/((M1 (M1 (q0.num.natAbs*(q1.den*q2.den)) (q1.num.natAbs*(q0.den*q2.den))) (q2.num.natAbs*(q0.den*q1.den)):Nat):Int):Int)):Rat)/\M0 (unK (qK q0 q1 q2) 3) (ovK (qK q0 q1 q2) 3)*q1=((((q1.num*((q0.den:Int)*(q2.den:Int)))/((M1 (M1 (q0.num.natAbs*(q1.den*q2.den)) (q1.num.natAbs*(q0.den*q2.den))) (q2.num.natAbs*(q0.den*q1.den)):Nat):Int):Int)):Rat)/\M0 (unK (qK q0 q1 q2) 3) (ovK (qK q0 q1 q2) 3)*q2=((((q2.num*((q0.den:Int)*(q1.den:Int)))/((M1 (M1 (q0.num.natAbs*(q1.den*q2.den)) (q1.num.natAbs*(q0.den*q2.den))) (q2.num.natAbs*(q0.den*q1.den)):Nat):Int):Int)):Rat):=by
 have hf:=WJ ho;have hg:=GY ho;have d0:1*(q0.den:Int)*(q1.den:Int)*(q2.den:Int)=(q0.den:Int)*((q1.den:Int)*(q2.den:Int)):=by rw[Int.one_mul,Int.mul_assoc]
 have d1:1*(q0.den:Int)*(q1.den:Int)*(q2.den:Int)=(q1.den:Int)*((q0.den:Int)*(q2.den:Int)):=by rw[Int.one_mul];ac_rfl
 have d2:1*(q0.den:Int)*(q1.den:Int)*(q2.den:Int)=(q2.den:Int)*((q0.den:Int)*(q1.den:Int)):=by rw[Int.one_mul];ac_rfl
 have a0:(q0.num*((q1.den:Int)*(q2.den:Int))).natAbs=q0.num.natAbs*(q1.den*q2.den):=by simp[M6]
 have a1:(q1.num*((q0.den:Int)*(q2.den:Int))).natAbs=q1.num.natAbs*(q0.den*q2.den):=by simp[M6]
 have a2:(q2.num*((q0.den:Int)*(q1.den:Int))).natAbs=q2.num.natAbs*(q0.den*q1.den):=by simp[M6]
 have v0:M1 (M1 (q0.num.natAbs*(q1.den*q2.den)) (q1.num.natAbs*(q0.den*q2.den))) (q2.num.natAbs*(q0.den*q1.den))∣(q0.num*((q1.den:Int)*(q2.den:Int))).natAbs:=by rw[a0];exact Nat.dvd_trans (M4 _ _) (M4 _ _)
 have v1:M1 (M1 (q0.num.natAbs*(q1.den*q2.den)) (q1.num.natAbs*(q0.den*q2.den))) (q2.num.natAbs*(q0.den*q1.den))∣(q1.num*((q0.den:Int)*(q2.den:Int))).natAbs:=by rw[a1];exact Nat.dvd_trans (M4 _ _) (M8 _ _)
 have v2:M1 (M1 (q0.num.natAbs*(q1.den*q2.den)) (q1.num.natAbs*(q0.den*q2.den))) (q2.num.natAbs*(q0.den*q1.den))∣(q2.num*((q0.den:Int)*(q1.den:Int))).natAbs:=by rw[a2];exact M8 _ _
 generalize M1 (M1 (q0.num.natAbs*(q1.den*q2.den)) (q1.num.natAbs*(q0.den*q2.den))) (q2.num.natAbs*(q0.den*q1.den))=g at hf hg v0 v1 v2 ⊢;have key:∀ {q:Rat} {D E:Int},D=(q.den:Int)*E->((D:Int):Rat)*(1/((g:Int):Rat))=M0 (unK (qK q0 q1 q2) 3) (ovK (qK q0 q1 q2) 3)->g∣(q.num*E).natAbs->M0 (unK (qK q0 q1 q2) 3) (ovK (qK q0 q1 q2) 3)*q=((q.num*E/(g:Int):Int):Rat):=by
  intro q D E hD hF hv;obtain⟨m,hm⟩:=Int.ofNat_dvd_left.2 hv;have hg':((g:Int):Rat)≠0:=by
   intro e;have:=Rat.intCast_inj.1 (show((g:Int):Rat)=((0:Int):Rat)from e);omega
  have h1:=Ur hD;rw[hm,Int.mul_ediv_cancel_left _ (by omega:(g:Int)≠0),←hF];rw[hm,Rat.intCast_mul]at h1
  grind
 exact⟨key d0 hf v0,key d1 hf v1,key d2 hf v2⟩
theorem Ml{q0 q1 q2:Rat}{k:Nat}(f:Few3 k q0 q1 q2)(ho:0<ovK (qK q0 q1 q2) 3):Few3 (k+(k+k)+1) (M0 (unK (qK q0 q1 q2) 3) (ovK (qK q0 q1 q2) 3)*q0) (M0 (unK (qK q0 q1 q2) 3) (ovK (qK q0 q1 q2) 3)*q1) (M0 (unK (qK q0 q1 q2) 3) (ovK (qK q0 q1 q2) 3)*q2):=by
 obtain⟨e0,e1,e2⟩:=O9 ho;rw[e0,e1,e2];have kd:∀ {q:Rat},Few q k->((q.den:Int)).natAbs<ten k:=fun h=>by rw[Int.natAbs_natCast];exact h.d
 have le:∀(z:Int) (g:Nat),(z/(g:Int)).natAbs<=z.natAbs:=fun z g=>Int.natAbs_ediv_le_natAbs z g;exact⟨Ux (M3 (le _ _) (JS f.x.n (JS (kd f.y) (kd f.z)))),Ux (M3 (le _ _) (JS f.y.n (JS (kd f.x) (kd f.z)))),Ux (M3 (le _ _) (JS f.z.n (JS (kd f.x) (kd f.y))))⟩
theorem ZI{q0 q1 q2:Rat}(hi:q0.den=1/\q1.den=1/\q2.den=1)(ho:0<ovK (qK q0 q1 q2) 3):M0 (unK (qK q0 q1 q2) 3) (ovK (qK q0 q1 q2) 3)*q0=((q0.num/((M1 (M1 q0.num.natAbs q1.num.natAbs) q2.num.natAbs:Nat):Int):Int):Rat)/\M0 (unK (qK q0 q1 q2) 3) (ovK (qK q0 q1 q2) 3)*q1=((q1.num/((M1 (M1 q0.num.natAbs q1.num.natAbs) q2.num.natAbs:Nat):Int):Int):Rat)/\M0 (unK (qK q0 q1 q2) 3) (ovK (qK q0 q1 q2) 3)*q2=((q2.num/((M1 (M1 q0.num.natAbs q1.num.natAbs) q2.num.natAbs:Nat):Int):Int):Rat):=by
 obtain⟨i0,i1,i2⟩:=hi;obtain⟨e0,e1,e2⟩:=O9 ho;rw[e0,e1,e2,i0,i1,i2];simp
theorem Mh(x0 x1 x2:R4)(q0 q1 q2:Rat)(k:Nat)(w:World)(h:VecV w x0 x1 x2 q0 q1 q2)(f:Few3 k q0 q1 q2)(hk:3*k+1<=300)(hz:QW q0 q1 q2=false)(hg:Good w) :
  Calls Tryz.prog 47 #[Jv x0 x1 x2] w (OF (M0 (unK (qK q0 q1 q2) 3) (ovK (qK q0 q1 q2) 3)*q0) (M0 (unK (qK q0 q1 q2) 3) (ovK (qK q0 q1 q2) 3)*q1) (M0 (unK (qK q0 q1 q2) 3) (ovK (qK q0 q1 q2) 3)*q2) w):=by
 have ho:=EX hz;have hc:cmpV q0 q1 q2 0 0 0≠0:=by
  unfold QW at hz;exact beq_eq_false_iff_ne.1 hz
 by_cases hi:IsI q0/\IsI q1/\IsI q2
 ·by_cases hm:q0.num=-9223372036854775808\/q1.num=-9223372036854775808\/q2.num=-9223372036854775808
  ·exact XV x0 x1 x2 q0 q1 q2 k w h f hk hc (.inr ⟨hi,hm⟩) (by omega) hg
  ·obtain⟨i0,i1,i2⟩:=hi;have b:∀ {q:Rat},IsI q->q.num≠-9223372036854775808->q.num.natAbs<=9223372036854775807:=fun h hn=>by
    have h1:=h.2.1;have h2:=h.2.2;omega
   have e:=ZI ⟨i0.1,i1.1,i2.1⟩ ho;rw[ovK3]at ho;rw[e.1,e.2.1,e.2.2];exact GD x0 x1 x2 q0 q1 q2 _ w h (f.mid (by omega)) hc ⟨i0,i1,i2⟩ (b i0 fun e=>hm (.inl e)) (b i1 fun e=>hm (.inr (.inl e))) (b i2 fun e=>hm (.inr (.inr e))) rfl ho
 ·exact XV x0 x1 x2 q0 q1 q2 k w h f hk hc (.inl hi) (by omega) hg
theorem NR(x0 x1 x2:R4)(q0 q1 q2:Rat)(w:World)(h:VecV w x0 x1 x2 q0 q1 q2)(m:Mid3 q0 q1 q2)(hz:QW q0 q1 q2=true) :
  Calls Tryz.prog 47 #[Jv x0 x1 x2] w fun e w'=>∃r0 r1 r2:R4,e= .returned (.tuple #[Jv r0 r1 r2,Ji Jl 19])/\(r0=Jm/\r1=Jm/\r2=Jm)/\Below w.heap.size w w':=by
 have kb:=((M2 w.heap.size w).alloc (M5 _) (Jc #[Ji Jl x0.1,Jp x0.2.1,Ji Jl x0.2.2.1,Jp x0.2.2.2,Ji Jl x1.1,Jp x1.2.1,Ji Jl x1.2.2.1,Jp x1.2.2.2,Ji Jl x2.1,Jp x2.2.1,Ji Jl x2.2.2.1,Jp x2.2.2.2] 32)).alloc (by simp) (Jc #[Ji Jl 0,Jp Jn,Ji Jl 0,Jp Jn,Ji Jl 0,Jp Jn,Ji Jl 0,Jp Jn,Ji Jl 0,Jp Jn,Ji Jl 0,Jp Jn] 32);have C0:=(JZ w x0 x1 x2).keep ((M2 _ _).alloc (M5 _) (Jc #[Ji Jl 0,Jp Jn,Ji Jl 0,Jp Jn,Ji Jl 0,Jp Jn,Ji Jl 0,Jp Jn,Ji Jl 0,Jp Jn,Ji Jl 0,Jp Jn] 32));have C2:=JZ (w.alloc (Jc #[Ji Jl x0.1,Jp x0.2.1,Ji Jl x0.2.2.1,Jp x0.2.2.2,Ji Jl x1.1,Jp x1.2.1,Ji Jl x1.2.2.1,Jp x1.2.2.2,Ji Jl x2.1,Jp x2.2.1,Ji Jl x2.2.2.1,Jp x2.2.2.2] 32)) Jm Jm Jm;simp only[World.size_alloc]at C2;have HZ:=Ug x0 x1 x2 q0 q1 q2 _ (h.keep kb) m;rw[show(cmpV q0 q1 q2 0 0 0 ==0)=true from hz]at HZ;obtain⟨W,hW⟩:∃u,(w.alloc (Jc #[Ji Jl x0.1,Jp x0.2.1,Ji Jl x0.2.2.1,Jp x0.2.2.2,Ji Jl x1.1,Jp x1.2.1,Ji Jl x1.2.2.1,Jp x1.2.2.2,Ji Jl x2.1,Jp x2.2.1,Ji Jl x2.2.2.1,Jp x2.2.2.2] 32)).alloc (Jc #[Ji Jl 0,Jp Jn,Ji Jl 0,Jp Jn,Ji Jl 0,Jp Jn,Ji Jl 0,Jp Jn,Ji Jl 0,Jp Jn,Ji Jl 0,Jp Jn] 32)=u:=⟨_,rfl⟩;simp only[Jm]at C2;rw[hW]at kb C0 C2 HZ;have HZ:=Lh HZ;obtain⟨m0,m1,m2,m3,m4,m5,m6,m7,m8,m9,m10,m11⟩:=Jh.r12 (p:=w.heap.size) C0;have R:=Lh (show Jh W (w.heap.size+1) (flat [Jm,Jm,Jm])from C2);have Kb:=Lh kb;clear h m kb C0 C2 hz;unfold Jv at *
 go_enter Tryz.func47,Tryz.ntmps47;go_wp2_with fail
 try simp only[hW]
 refine HZ.out.mono ?_;rintro e w1⟨rfl,h1⟩;have R:=Lh (R.out.keep h1);have K1:=Lh (Jd Kb.out h1);clear hW HZ h1 m0 m1 m2 m3 m4 m5 m6 m7 m8 m9 m10 m11;have Hf:=Lh (JJ K1.out (show w.heap.size<=w.heap.size+1 by omega) Jm Jm Jm);obtain⟨z0,z1,z2,z3,z4,z5,z6,z7,z8,z9,z10,z11⟩:=Jh.q12 (p:=w.heap.size+1) R.out;obtain⟨f0,f1,f2,f3,f4,f5,f6,f7,f8,f9,f10,f11⟩:=Jh.z12 (p:=w.heap.size+1) R.out;go_wp2;exact bodyPost_ret (v:= .tuple #[.agg #[Ji Jl 0,Jp Jn,Ji Jl 0,Jp Jn,Ji Jl 0,Jp Jn,Ji Jl 0,Jp Jn,Ji Jl 0,Jp Jn,Ji Jl 0,Jp Jn],Ji Jl 19]) (by simp[results,Tryz.results47,go_sem,z0,z1,z2,z3,z4,z5,z6,z7,z8,z9,z10,z11]) rfl ⟨Jm,Jm,Jm,rfl,⟨rfl,rfl,rfl⟩,Hf.out⟩
theorem Mi(n0 n1 n2:Int)(w:World)(h0:I64 n0)(h1:I64 n1)(h2:I64 n2):Calls Tryz.prog 19 #[.agg #[Ji Jl n0,Ji Jl n1,Ji Jl n2]] w fun e w'=>e= .returned (.agg #[Js (txt n0),Js (txt n1),Js (txt n2)])/\Below w.heap.size w w':=by
 have kb:=((M2 w.heap.size w).alloc (M5 _) (Jc #[Ji Jl n0,Ji Jl n1,Ji Jl n2] 40)).alloc (by simp) (Jc #[Js ⟨#[]⟩,Js ⟨#[]⟩,Js ⟨#[]⟩] 48);have C0:=(Jh.new w #[Ji Jl n0,Ji Jl n1,Ji Jl n2] 40).keep ((M2 _ _).alloc (M5 _) (Jc #[Js ⟨#[]⟩,Js ⟨#[]⟩,Js ⟨#[]⟩] 48));have C1:=Jh.new (w.alloc (Jc #[Ji Jl n0,Ji Jl n1,Ji Jl n2] 40)) #[Js ⟨#[]⟩,Js ⟨#[]⟩,Js ⟨#[]⟩] 48;simp only[World.size_alloc]at C1;have HF0:=fun w'=>(show Calls Tryz.prog 64 #[Ji Jl n0] w' (fun e w''=>e= .returned (Js (txt n0))/\Below w'.heap.size w' w'')from UA n0 w' h0);have HF1:=fun w'=>(show Calls Tryz.prog 64 #[Ji Jl n1] w' (fun e w''=>e= .returned (Js (txt n1))/\Below w'.heap.size w' w'')from UA n1 w' h1);have HF2:=fun w'=>(show Calls Tryz.prog 64 #[Ji Jl n2] w' (fun e w''=>e= .returned (Js (txt n2))/\Below w'.heap.size w' w'')from UA n2 w' h2);generalize txt n0=s0 at *
 generalize txt n1=s1 at *
 generalize txt n2=s2 at *
 have HF0:=Lh HF0;have HF1:=Lh HF1;have HF2:=Lh HF2;obtain⟨W,hW⟩:∃u,(w.alloc (Jc #[Ji Jl n0,Ji Jl n1,Ji Jl n2] 40)).alloc (Jc #[Js ⟨#[]⟩,Js ⟨#[]⟩,Js ⟨#[]⟩] 48)=u:=⟨_,rfl⟩;rw[hW]at kb C0 C1;have K0:=Lh kb;have V0:=Lh C0;have V1:=Lh (show Jh W (w.heap.size+1) [Js ⟨#[]⟩,Js ⟨#[]⟩,Js ⟨#[]⟩]from C1);have HS:=Lh (fun w' (hb:Below W.heap.size W w')=>(⟨(V0.out.keep hb).at_ 0,(V0.out.keep hb).at_ 1,(V0.out.keep hb).at_ 2⟩:w'.cell? ⟨w.heap.size,0,Jn⟩=some (Ji Jl n0)/\w'.cell? ⟨w.heap.size,1,Jn⟩=some (Ji Jl n1)/\w'.cell? ⟨w.heap.size,2,Jn⟩=some (Ji Jl n2)));clear kb C0 C1 h0 h1 h2;go_enter Tryz.func19,Tryz.ntmps19;go_upto_region 1 with fail
 try simp only[hW]
 clear hW;refine Till.begin 10 (fun w'=>w'.cell? ⟨w.heap.size,0,Jn⟩=some (Ji Jl n0)/\w'.cell? ⟨w.heap.size,1,Jn⟩=some (Ji Jl n1)/\w'.cell? ⟨w.heap.size,2,Jn⟩=some (Ji Jl n2)) (by kernel_rfl) (HS.out _ (M2 _ _).drew) (fun hH=>?_);clear hH;have HB:=Lh (M2 W.heap.size W).drew;generalize W.drew=v0 at HB ⊢;try simp only[Pls]
 refine Till.tk 0 1 3 (Jp (some ⟨w.heap.size,0,Jn⟩)) (HS.out _ HB.out) ?_;try simp only[M7,Pls]
 refine Till.tk 1 2 4 (Ji Jl n0) (HS.out _ HB.out) ?_;try simp only[M7,Pls]
 refine Till.tk 3 4 6 (Jp (some ⟨w.heap.size,1,Jn⟩)) (HS.out _ HB.out) ?_;try simp only[M7,Pls]
 refine Till.tk 4 5 7 (Ji Jl n1) (HS.out _ HB.out) ?_;try simp only[M7,Pls]
 refine Till.tk 6 7 9 (Jp (some ⟨w.heap.size,2,Jn⟩)) (HS.out _ HB.out) ?_;try simp only[M7,Pls]
 refine Till.tk 7 8 10 (Ji Jl n2) (HS.out _ HB.out) ?_;try simp only[M7,Pls]
 refine Till.one (i:=2) (by kernel_rfl) rfl (fun K hK=>?_);go_simp;refine(HF0.out _).mono ?_;rintro e v1⟨rfl,g⟩;replace HB:=Lh (Jd HB.out g);clear g;go_wp2_with fail
 refine hK.out _ _ (fun _=>HS.out _ HB.out) ?_;clear hK K;try simp only[Pls]
 refine Till.one (i:=5) (by kernel_rfl) rfl (fun K hK=>?_);go_simp;refine(HF1.out _).mono ?_;rintro e v2⟨rfl,g⟩;replace HB:=Lh (Jd HB.out g);clear g;go_wp2_with fail
 refine hK.out _ _ (fun _=>HS.out _ HB.out) ?_;clear hK K;try simp only[Pls]
 refine Till.one (i:=8) (by kernel_rfl) rfl (fun K hK=>?_);go_simp;refine(HF2.out _).mono ?_;rintro e v3⟨rfl,g⟩;replace HB:=Lh (Jd HB.out g);have Cv:=V1.out.keep HB.out;have f0:v3.frozen? ⟨w.heap.size+1,0,Jn⟩=false:=Cv.fz 0;have k0:v3.cell? ⟨w.heap.size+1,0,Jn⟩=some (Js ⟨#[]⟩):=Cv.at_ 0;have f1:v3.frozen? ⟨w.heap.size+1,1,Jn⟩=false:=Cv.fz 1;have k1:v3.cell? ⟨w.heap.size+1,1,Jn⟩=some (Js ⟨#[]⟩):=Cv.at_ 1;have f2:v3.frozen? ⟨w.heap.size+1,2,Jn⟩=false:=Cv.fz 2;have k2:v3.cell? ⟨w.heap.size+1,2,Jn⟩=some (Js ⟨#[]⟩):=Cv.at_ 2;clear Cv;clear g;go_wp2_with fail
 refine hK.out _ _ (fun _=>HS.out _ HB.out) ?_;clear hK K;try simp only[Pls]
 refine Till.one (i:=9) (by kernel_rfl) rfl (fun K hK=>?_);go_simp;refine hK.out _ _ (fun _=>HS.out _ HB.out) ?_;clear hK K;try simp only[Pls]
 refine Till.one (i:=10) (by kernel_rfl) rfl (fun K hK=>?_);go_simp;refine hK.out _ _ (fun h=>absurd h (by simp)) ?_;clear hK K;try simp only[Pls]
 refine Till.done (by kernel_rfl) ?_ _;have Kf:=Lh ((((Jd K0.out HB.out).setCell (p:=⟨w.heap.size+1,0,Jn⟩) (M9 _) (Js s0)).setCell (p:=⟨w.heap.size+1,1,Jn⟩) (M9 _) (Js s1)).setCell (p:=⟨w.heap.size+1,2,Jn⟩) (M9 _) (Js s2));go_wp2;exact bodyPost_ret (v:= .agg #[Js s0,Js s1,Js s2]) (by simp[results,Tryz.results19,go_sem,k0,k1,k2]) rfl ⟨rfl,Kf.out⟩
theorem few_i64{n:Int}(h:I64 n):Few ((n:Int):Rat) 20:=⟨by rw[Rat.num_intCast];have:=h.1;have:=h.2;show n.natAbs<100000000000000000000;omega,by rw[Rat.den_intCast];decide⟩
