/- GC35: Vpri -/
import Derived.Test.YtekhdklbfincpaaGreatDoorGC33
import Derived.Test.YtekhdklbfincpaaGreatDoorGC34
set_option maxRecDepth 100000
set_option maxHeartbeats 16000000
namespace Go.Proofs.YtekhdklbfincpaaGreatDoor
open Go.Value renaming pointer→Jp,int→Ji
open Go.IntKind renaming i64→Jl
open _root_.Option renaming none→Jn
open _root_.Nat renaming le_refl→M0,gcd→M1
open Go.RowKit
def OF(z0 z1 z2:Rat)(w:World)(e:Ending)(w':World):Prop:=
 ∃r0 r1 r2,e= .returned (.tuple #[Jv r0 r1 r2,Ji Jl 0])/\VecV w' r0 r1 r2 z0 z1 z2/\Below w.heap.size w w'
theorem GD(x0 x1 x2:R4)(q0 q1 q2:Rat)(G:Nat)(w:World)(h:VecV w x0 x1 x2 q0 q1 q2)(m:Mid3 q0 q1 q2)(hz:cmpV q0 q1 q2 0 0 0≠0)(hi:IsI q0/\IsI q1/\IsI q2)(h0:q0.num.natAbs<=9223372036854775807)(h1:q1.num.natAbs<=9223372036854775807)(h2:q2.num.natAbs<=9223372036854775807)(hG:M1 (M1 q0.num.natAbs q1.num.natAbs) q2.num.natAbs=G)(hp:0<G) :
  Calls Tryz.prog 47 #[Jv x0 x1 x2] w (OF ((q0.num/(G:Int):Int):Rat) ((q1.num/(G:Int):Int):Rat) ((q2.num/(G:Int):Int):Rat) w):=by
 have kb:=((Below.refl w.heap.size w).alloc (M0 _) (.cells #[Ji Jl x0.1,Jp x0.2.1,Ji Jl x0.2.2.1,Jp x0.2.2.2,Ji Jl x1.1,Jp x1.2.1,Ji Jl x1.2.2.1,Jp x1.2.2.2,Ji Jl x2.1,Jp x2.2.1,Ji Jl x2.2.2.1,Jp x2.2.2.2] 32)).alloc (by simp) (.cells #[Ji Jl 0,Jp Jn,Ji Jl 0,Jp Jn,Ji Jl 0,Jp Jn,Ji Jl 0,Jp Jn,Ji Jl 0,Jp Jn,Ji Jl 0,Jp Jn] 32);have C0:=(JZ w x0 x1 x2).keep ((Below.refl _ _).alloc (M0 _) (.cells #[Ji Jl 0,Jp Jn,Ji Jl 0,Jp Jn,Ji Jl 0,Jp Jn,Ji Jl 0,Jp Jn,Ji Jl 0,Jp Jn,Ji Jl 0,Jp Jn] 32));have C1:=JZ (w.alloc (.cells #[Ji Jl x0.1,Jp x0.2.1,Ji Jl x0.2.2.1,Jp x0.2.2.2,Ji Jl x1.1,Jp x1.2.1,Ji Jl x1.2.2.1,Jp x1.2.2.2,Ji Jl x2.1,Jp x2.2.1,Ji Jl x2.2.2.1,Jp x2.2.2.2] 32)) Jm Jm Jm;simp only[World.size_alloc]at C1;have HZ:=Ug x0 x1 x2 q0 q1 q2 _ (h.keep kb) m;rw[show(cmpV q0 q1 q2 0 0 0 ==0)=false by rw[beq_eq_false_iff_ne];exact hz]at HZ;obtain⟨W,hW⟩:∃u,(w.alloc (.cells #[Ji Jl x0.1,Jp x0.2.1,Ji Jl x0.2.2.1,Jp x0.2.2.2,Ji Jl x1.1,Jp x1.2.1,Ji Jl x1.2.2.1,Jp x1.2.2.2,Ji Jl x2.1,Jp x2.2.1,Ji Jl x2.2.2.1,Jp x2.2.2.2] 32)).alloc (.cells #[Ji Jl 0,Jp Jn,Ji Jl 0,Jp Jn,Ji Jl 0,Jp Jn,Ji Jl 0,Jp Jn,Ji Jl 0,Jp Jn,Ji Jl 0,Jp Jn] 32)=u:=⟨_,rfl⟩;simp only[Jm]at C1;rw[hW]at kb C0 C1 HZ;have Kb:=Lh kb;have C:=Lh C0;have R:=Lh (show Jh W (w.heap.size+1) (flat [Jm,Jm,Jm])from C1);have HZ:=Lh HZ;have HI:=Lh (fun w' (hb:Below w.heap.size w w')=>OY x0 x1 x2 q0 q1 q2 w' (h.keep hb));have Hi:=Lh hi;have HS:=Lh (fun w=>Ws q0.num q1.num q2.num G w h0 h1 h2 hG hp);have N:=Lh (And.intro h0 (And.intro h1 h2));clear hi h0 h1 h2 hG hp
 clear h m hz kb C0 C1;obtain⟨m0,m1,m2,m3,m4,m5,m6,m7,m8,m9,m10,m11⟩:=Jh.r12 (p:=w.heap.size) C.out;unfold Jv at *
 go_enter Tryz.func47,Tryz.ntmps47;go_wp2_with fail
 try simp only[hW]
 refine HZ.out.mono ?_;rintro e w1⟨rfl,h1⟩;have C:=Lh (C.out.keep h1);have R:=Lh (R.out.keep h1);have K1:=Lh (Jd Kb.out h1);clear hW h1 m0 m1 m2 m3 m4 m5 m6 m7 m8 m9 m10 m11 HZ;obtain⟨m0,m1,m2,m3,m4,m5,m6,m7,m8,m9,m10,m11⟩:=Jh.r12 (p:=w.heap.size) C.out;go_wp2_with fail
 refine(HI.out _ K1.out).mono ?_;rintro e w2⟨n0,n1,n2,E,rfl,hn,_,h2⟩;obtain⟨rfl,rfl,rfl,rfl⟩:=hn Hi.out;obtain⟨k0,k1,k2⟩:=N.out;generalize q0.num=n0 at *
 generalize q1.num=n1 at *
 generalize q2.num=n2 at *
 have s0:(n0 == -9223372036854775808)=false:=by rw[beq_eq_false_iff_ne];omega
 have s1:(n1 == -9223372036854775808)=false:=by rw[beq_eq_false_iff_ne];omega
 have s2:(n2 == -9223372036854775808)=false:=by rw[beq_eq_false_iff_ne];omega
 have t0:(n0 != -9223372036854775808)=true:=by rw[bne,s0];rfl
 have t1:(n1 != -9223372036854775808)=true:=by rw[bne,s1];rfl
 have t2:(n2 != -9223372036854775808)=true:=by rw[bne,s2];rfl
 have kv:=(Below.refl w2.heap.size w2).alloc (M0 _) (.cells #[Ji Jl n0,Ji Jl n1,Ji Jl n2] 40);have R:=Lh ((R.out.keep h2).keep kv);have K2:=Lh (Jd (Jd K1.out h2) kv);clear hn h2 kv k0 k1 k2 C m0 m1 m2 m3 m4 m5 m6 m7 m8 m9 m10 m11;go_wp2_with fail
 refine(HS.out _).mono ?_;rintro e w3⟨x0,x1,x2,rfl,hv,hb⟩;have R:=Lh (R.out.keep hb);have K:=Lh (Jd K2.out hb);clear s0 s1 s2 t0 t1 t2;have Hv:=Lh (hv.wrote R.out (JF w3 _ x0 x1 x2).1 (JF w3 _ x0 x1 x2).2);have Hf:=Lh (JJ K.out (show w.heap.size<=w.heap.size+1 by omega) x0 x1 x2);obtain⟨z0,z1,z2,z3,z4,z5,z6,z7,z8,z9,z10,z11⟩:=Jh.q12 (p:=w.heap.size+1) R.out;obtain⟨f0,f1,f2,f3,f4,f5,f6,f7,f8,f9,f10,f11⟩:=Jh.z12 (p:=w.heap.size+1) R.out;clear hv hb;unfold Jv;go_wp2;exact bodyPost_ret (v:= .tuple #[Jv x0 x1 x2,Ji Jl 0]) (by simp[Jv,results,Tryz.results47,go_sem,z0,z1,z2,z3,z4,z5,z6,z7,z8,z9,z10,z11]) rfl ⟨x0,x1,x2,rfl,Hv.out,Hf.out⟩
