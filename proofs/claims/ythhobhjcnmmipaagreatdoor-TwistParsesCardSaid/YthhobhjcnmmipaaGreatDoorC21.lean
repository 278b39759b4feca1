/- C21: Vsho Reg -/
import Derived.Test.YthhobhjcnmmipaaGreatDoorC20
import Derived.Test.YthhobhjcnmmipaaGreatDoorC17
import Derived.Test.YthhobhjcnmmipaaGreatDoorC15
set_option maxRecDepth 100000
set_option maxHeartbeats 16000000
namespace Go.Proofs.YthhobhjcnmmipaaGreatDoor
open Go.Value renaming pointer→Jp,int→Ji
open Go.IntKind renaming i64→Jl
open Go.Obj renaming cells→Jc
open _root_.Option renaming none→Jn
open Go renaming World→JW
open _root_.Nat renaming gcd→E4,gcd_zero_right→E5,le_trans→E6,le_refl→E7,gcd_dvd_left→E8,eq_zero_or_pos→E9,le_of_lt→EY,gcd_dvd_right→EZ,gcd_comm→F0
open Go.RowKit
def gcd3(a b c:Nat):Nat->Nat
 | 0=>0
 | 1=>a
 | 2=>E4 a b
 | _=>E4 (E4 a b) c
theorem XY(d n:Int):E4 n.natAbs (Int.tmod d n).natAbs=E4 d.natAbs n.natAbs:=by
 rw[Int.natAbs_tmod,F0 d.natAbs n.natAbs,Nat.gcd_rec n.natAbs d.natAbs,F0]
theorem U3(d n:Int)(h:n≠0):(Int.tmod d n).natAbs<n.natAbs:=by
 rw[Int.natAbs_tmod];exact Nat.mod_lt _ (by omega)
theorem G8{d:Int}{g:Nat}(h:d.natAbs=g):d=(g:Int)\/d=-(g:Int):=by omega
theorem Gu{n:Int}{g:Nat}(hg:0<g)(h:n.natAbs<=9223372036854775807):I64 (n/(g:Int)):=by
 have:=OZ hg h;exact⟨by omega,by omega⟩
def UU(n0 n1 n2:Int)(G:Nat)(w wr:JW)(k:Nat):Prop:=
 ∃m0 m1 m2:Int,Jh wr w.heap.size [Ji Jl m0,Ji Jl m1,Ji Jl m2]/\m0=(if 0<k then n0/(G:Int) else n0)/\m1=(if 1<k then n1/(G:Int) else n1)/\m2=(if 2<k then n2/(G:Int) else n2)/\Jh wr (w.heap.size+1) (flat [Jm,Jm,Jm])/\Below w.heap.size w wr
theorem GT(n0 n1 n2:Int)(G:Nat)(w:JW)(h0:n0.natAbs<=9223372036854775807)(h1:n1.natAbs<=9223372036854775807)(h2:n2.natAbs<=9223372036854775807)(hG:E4 (E4 n0.natAbs n1.natAbs) n2.natAbs=G)(hp:0<G) :
  Calls Tryz.prog 83 #[.agg #[Ji Jl n0,Ji Jl n1,Ji Jl n2]] w (YX ((n0/(G:Int):Int):Rat) ((n1/(G:Int):Int):Rat) ((n2/(G:Int):Int):Rat) w):=by
 have d0:G∣n0.natAbs:=hG ▸ Nat.dvd_trans (E8 _ _) (E8 _ _);have d1:G∣n1.natAbs:=hG ▸ Nat.dvd_trans (E8 _ _) (EZ _ _);have d2:G∣n2.natAbs:=hG ▸ EZ _ _;have gm:G<=9223372036854775807:=by
  rcases E9 n2.natAbs with h|h
  ·rw[h,E5]at hG;rcases E9 n1.natAbs with h'|h'
   ·rw[h',E5]at hG;omega
   ·exact E6 (Nat.le_of_dvd h' d1) h1
  ·exact E6 (Nat.le_of_dvd h d2) h2
 have T0:=Lh (QY hp d0);have T1:=Lh (QY hp d1);have T2:=Lh (QY hp d2);have I0:=Lh (Gu hp h0);have I1:=Lh (Gu hp h1);have I2:=Lh (Gu hp h2);have kb:=((Below.refl w.heap.size w).alloc (E7 _) (Jc #[Ji Jl n0,Ji Jl n1,Ji Jl n2] 109)).alloc (by simp) (Jc #[Ji Jl 0,Jp Jn,Ji Jl 0,Jp Jn,Ji Jl 0,Jp Jn,Ji Jl 0,Jp Jn,Ji Jl 0,Jp Jn,Ji Jl 0,Jp Jn] 35);have C0:=(Jh.new w #[Ji Jl n0,Ji Jl n1,Ji Jl n2] 109).keep ((Below.refl _ _).alloc (E7 _) (Jc #[Ji Jl 0,Jp Jn,Ji Jl 0,Jp Jn,Ji Jl 0,Jp Jn,Ji Jl 0,Jp Jn,Ji Jl 0,Jp Jn,Ji Jl 0,Jp Jn] 35));have C1:=Jh.new (w.alloc (Jc #[Ji Jl n0,Ji Jl n1,Ji Jl n2] 109)) #[Ji Jl 0,Jp Jn,Ji Jl 0,Jp Jn,Ji Jl 0,Jp Jn,Ji Jl 0,Jp Jn,Ji Jl 0,Jp Jn,Ji Jl 0,Jp Jn] 35;have hs:((w.alloc (Jc #[Ji Jl n0,Ji Jl n1,Ji Jl n2] 109)).alloc (Jc #[Ji Jl 0,Jp Jn,Ji Jl 0,Jp Jn,Ji Jl 0,Jp Jn,Ji Jl 0,Jp Jn,Ji Jl 0,Jp Jn,Ji Jl 0,Jp Jn] 35)).heap.size=w.heap.size+1+1:=by simp
 simp only[World.size_alloc]at C1;have hc:=Jh.new w #[Ji Jl n0,Ji Jl n1,Ji Jl n2] 109;obtain⟨W,hW⟩:∃u,(w.alloc (Jc #[Ji Jl n0,Ji Jl n1,Ji Jl n2] 109)).alloc (Jc #[Ji Jl 0,Jp Jn,Ji Jl 0,Jp Jn,Ji Jl 0,Jp Jn,Ji Jl 0,Jp Jn,Ji Jl 0,Jp Jn,Ji Jl 0,Jp Jn] 35)=u:=⟨_,rfl⟩;rw[hW]at kb C0 C1 hs;have V0:=Lh C0;have V1:=Lh (show Jh W (w.heap.size+1) (flat [Jm,Jm,Jm])from C1);have Kb:=Lh kb;have b0:W.cell? ⟨w.heap.size,0,Jn⟩=some (Ji Jl n0):=V0.out.at_ 0;have b1:W.cell? ⟨w.heap.size,1,Jn⟩=some (Ji Jl n1):=V0.out.at_ 1;have b2:W.cell? ⟨w.heap.size,2,Jn⟩=some (Ji Jl n2):=V0.out.at_ 2;have HG:=Lh hG;have hx0:=fun W:JW=>show(Instr.index 109 (.agg #[Ji Jl n0,Ji Jl n1,Ji Jl n2]) (Ji Jl 0)).run Tryz.prog W= .ok (Ji Jl n0) W from rfl;have hx1:=fun W:JW=>show(Instr.index 109 (.agg #[Ji Jl n0,Ji Jl n1,Ji Jl n2]) (Ji Jl 1)).run Tryz.prog W= .ok (Ji Jl n1) W from rfl;have hx2:=fun W:JW=>show(Instr.index 109 (.agg #[Ji Jl n0,Ji Jl n1,Ji Jl n2]) (Ji Jl 2)).run Tryz.prog W= .ok (Ji Jl n2) W from rfl;clear kb C0 C1 hs hc d0 d1 d2 hG;go_enter Tryz.func83,Tryz.ntmps83;go_wp2_with fail
 try simp only[hW]
 clear hW;go_loopw [3,8] (fun vd vk wr=>∃(k:Nat) (z d:Int),k<=3/\z=(k:Int)/\vk=Ji Jl z/\vd=Ji Jl d/\d.natAbs=gcd3 n0.natAbs n1.natAbs n2.natAbs k/\d.natAbs<=9223372036854775807/\Below W.heap.size W wr) (fun _ vk _=>3-(intOf vk).toNat)
 case atStart=>exact⟨0,0,0,by decide,rfl,rfl,rfl,rfl,by decide,Below.refl _ _⟩
 case round=>
  obtain⟨k,z,d,hk,hzk,rfl,rfl,hd,hm,hb⟩:=hrel;have Hb:=Lh hb;clear hb;obtain rfl|rfl|rfl|rfl:k=0\/k=1\/k=2\/k=3:=by omega
  ·obtain rfl:z=0:=hzk;have Hst:=Lh (show E4 d.natAbs n0.natAbs=gcd3 n0.natAbs n1.natAbs n2.natAbs 1 from by have h0:d.natAbs=0:=hd;rw[show d=0 by omega];exact Nat.gcd_zero_left _);clear hd;go_wp2_with fail
   go_loopw [3,5] (fun vd vn wr=>∃d n:Int,vd=Ji Jl d/\vn=Ji Jl n/\d.natAbs<=9223372036854775807/\n.natAbs<=9223372036854775807/\E4 d.natAbs n.natAbs=gcd3 n0.natAbs n1.natAbs n2.natAbs 1/\Below W.heap.size W wr) (fun _ vn _=>(intOf vn).natAbs)
   case atStart=>exact⟨d,n0,rfl,rfl,hm,h0,Hst.out,Hb.out⟩
   case round=>
    obtain⟨d,n,rfl,rfl,hd1,hn1,hg,hb⟩:=hrel;have Hb:=Lh hb;clear hb hm;by_cases e:n=0
    ·subst e;have Hg:=Lh (show d.natAbs=gcd3 n0.natAbs n1.natAbs n2.natAbs 1 by rw[←hg];exact(E5 _).symm);clear hg;go_wp2;exact⟨⟨1,1,d,by decide,rfl,by go_num,rfl,Hg.out,hd1,Hb.out⟩,by simp[intOf]⟩
    ·have t0:(n ==0)=false:=by rw[beq_eq_false_iff_ne];exact e
     have t1:(n !=0)=true:=by rw[bne,t0];rfl
     have hl:=U3 d n e;have hgn:=XY d n;rw[hg]at hgn;obtain⟨r,hr⟩:∃r,Int.tmod d n=r:=⟨_,rfl⟩;rw[hr]at hl hgn;have Hl:=Lh hl;have Hgn:=Lh hgn;have Hn1:=Lh hn1;clear hg hgn;have hd2:-9223372036854775807<=d/\d<=9223372036854775807:=by omega
     go_wp2_with fail
     go_quiet (fail)
     go_wp2_with fail
     exact⟨⟨n,r,rfl,rfl,Hn1.out,E6 (EY Hl.out) Hn1.out,Hgn.out,by first|exact Hb.out|exact below_drewN Hb.out _⟩,by simp[intOf];exact Hl.out⟩
  ·obtain rfl:z=1:=hzk;have Hst:=Lh (show E4 d.natAbs n1.natAbs=gcd3 n0.natAbs n1.natAbs n2.natAbs 2 from by rw[hd];rfl);clear hd;go_wp2_with fail
   go_loopw [3,5] (fun vd vn wr=>∃d n:Int,vd=Ji Jl d/\vn=Ji Jl n/\d.natAbs<=9223372036854775807/\n.natAbs<=9223372036854775807/\E4 d.natAbs n.natAbs=gcd3 n0.natAbs n1.natAbs n2.natAbs 2/\Below W.heap.size W wr) (fun _ vn _=>(intOf vn).natAbs)
   case atStart=>exact⟨d,n1,rfl,rfl,hm,h1,Hst.out,Hb.out⟩
   case round=>
    obtain⟨d,n,rfl,rfl,hd1,hn1,hg,hb⟩:=hrel;have Hb:=Lh hb;clear hb hm;by_cases e:n=0
    ·subst e;have Hg:=Lh (show d.natAbs=gcd3 n0.natAbs n1.natAbs n2.natAbs 2 by rw[←hg];exact(E5 _).symm);clear hg;go_wp2;exact⟨⟨2,2,d,by decide,rfl,by go_num,rfl,Hg.out,hd1,Hb.out⟩,by simp[intOf]⟩
    ·have t0:(n ==0)=false:=by rw[beq_eq_false_iff_ne];exact e
     have t1:(n !=0)=true:=by rw[bne,t0];rfl
     have hl:=U3 d n e;have hgn:=XY d n;rw[hg]at hgn;obtain⟨r,hr⟩:∃r,Int.tmod d n=r:=⟨_,rfl⟩;rw[hr]at hl hgn;have Hl:=Lh hl;have Hgn:=Lh hgn;have Hn1:=Lh hn1;clear hg hgn;have hd2:-9223372036854775807<=d/\d<=9223372036854775807:=by omega
     go_wp2_with fail
     go_quiet (fail)
     go_wp2_with fail
     exact⟨⟨n,r,rfl,rfl,Hn1.out,E6 (EY Hl.out) Hn1.out,Hgn.out,by first|exact Hb.out|exact below_drewN Hb.out _⟩,by simp[intOf];exact Hl.out⟩
  ·obtain rfl:z=2:=hzk;have Hst:=Lh (show E4 d.natAbs n2.natAbs=gcd3 n0.natAbs n1.natAbs n2.natAbs 3 from by rw[hd];rfl);clear hd;go_wp2_with fail
   go_loopw [3,5] (fun vd vn wr=>∃d n:Int,vd=Ji Jl d/\vn=Ji Jl n/\d.natAbs<=9223372036854775807/\n.natAbs<=9223372036854775807/\E4 d.natAbs n.natAbs=gcd3 n0.natAbs n1.natAbs n2.natAbs 3/\Below W.heap.size W wr) (fun _ vn _=>(intOf vn).natAbs)
   case atStart=>exact⟨d,n2,rfl,rfl,hm,h2,Hst.out,Hb.out⟩
   case round=>
    obtain⟨d,n,rfl,rfl,hd1,hn1,hg,hb⟩:=hrel;have Hb:=Lh hb;clear hb hm;by_cases e:n=0
    ·subst e;have Hg:=Lh (show d.natAbs=gcd3 n0.natAbs n1.natAbs n2.natAbs 3 by rw[←hg];exact(E5 _).symm);clear hg;go_wp2;exact⟨⟨3,3,d,by decide,rfl,by go_num,rfl,Hg.out,hd1,Hb.out⟩,by simp[intOf]⟩
    ·have t0:(n ==0)=false:=by rw[beq_eq_false_iff_ne];exact e
     have t1:(n !=0)=true:=by rw[bne,t0];rfl
     have hl:=U3 d n e;have hgn:=XY d n;rw[hg]at hgn;obtain⟨r,hr⟩:∃r,Int.tmod d n=r:=⟨_,rfl⟩;rw[hr]at hl hgn;have Hl:=Lh hl;have Hgn:=Lh hgn;have Hn1:=Lh hn1;clear hg hgn;have hd2:-9223372036854775807<=d/\d<=9223372036854775807:=by omega
     go_wp2_with fail
     go_quiet (fail)
     go_wp2_with fail
     exact⟨⟨n,r,rfl,rfl,Hn1.out,E6 (EY Hl.out) Hn1.out,Hgn.out,by first|exact Hb.out|exact below_drewN Hb.out _⟩,by simp[intOf];exact Hl.out⟩
  ·obtain rfl:z=3:=hzk;have hd':d.natAbs=G:=hd.trans HG.out;have hG0:(0:Int)<(G:Int):=by omega
   clear hd hm;rcases G8 hd' with rfl|rfl;all_goals
    clear hd';have tm:max (G:Int) (-(G:Int))=(G:Int):=by omega
    have tm2:max (-(G:Int)) (G:Int)=(G:Int):=by omega
    have Hs0:=Lh (show UU n0 n1 n2 G w wr 0 from⟨n0,n1,n2,V0.out.keep Hb.out,rfl,rfl,rfl,V1.out.keep Hb.out,Jd Kb.out Hb.out⟩);go_wp2_with fail
    go_loopw [22] (fun v wr=>∃(k:Nat) (z:Int),k<=3/\z=(k:Int)/\v=Ji Jl z/\UU n0 n1 n2 G w wr k) (fun v _=>3-(intOf v).toNat)
    case atStart=>exact⟨0,0,by decide,rfl,rfl,Hs0.out⟩
    case round=>
     obtain⟨k,z,hk,hzk,rfl,m0,m1,m2,hc0,e0,e1,e2,hc1,hb⟩:=hrel;have C0:=Lh hc0;have C1:=Lh hc1;have K:=Lh hb;clear hc0 hc1 hb;obtain rfl|rfl|rfl|rfl:k=0\/k=1\/k=2\/k=3:=by omega
     ·obtain rfl:z=0:=hzk;obtain rfl:n0=m0:=Eq.symm e0;have a0:wr.cell? ⟨w.heap.size,0,Jn⟩=some (Ji Jl n0):=C0.out.at_ 0;have f0:wr.frozen? ⟨w.heap.size,0,Jn⟩=false:=C0.out.fz 0;have tq:Int.tdiv n0 (G:Int)=n0/(G:Int):=T0.out;have tg:((G:Int) ==0)=false:=by rw[beq_eq_false_iff_ne];omega
      obtain⟨q,hq⟩:∃q,n0/(G:Int)=q:=⟨_,rfl⟩;have hqi:I64 q:=hq ▸ I0.out;have hq0:=hqi.1;have hq1:=hqi.2;rw[hq]at tq;have Hn:=Lh (show UU n0 n1 n2 G w (wr.setCell ⟨w.heap.size,0,Jn⟩ (Ji Jl q)) 1 from⟨q,m1,m2,C0.out.set 0 (Ji Jl q) (by simp),hq.symm,e1,e2,(C1.out.other (show w.heap.size+1≠w.heap.size by omega) _ _),K.out.setCell (p:=⟨w.heap.size,0,Jn⟩) (E7 _) _⟩);clear hqi hq e0 e1 e2;go_wp2_with fail
      go_roundw;case rel=>exact⟨1,1,by decide,rfl,by go_num,Hn.out⟩
      case measure=>simp[intOf]
     ·obtain rfl:z=1:=hzk;obtain rfl:n1=m1:=Eq.symm e1;have a0:wr.cell? ⟨w.heap.size,1,Jn⟩=some (Ji Jl n1):=C0.out.at_ 1;have f0:wr.frozen? ⟨w.heap.size,1,Jn⟩=false:=C0.out.fz 1;have tq:Int.tdiv n1 (G:Int)=n1/(G:Int):=T1.out;have tg:((G:Int) ==0)=false:=by rw[beq_eq_false_iff_ne];omega
      obtain⟨q,hq⟩:∃q,n1/(G:Int)=q:=⟨_,rfl⟩;have hqi:I64 q:=hq ▸ I1.out;have hq0:=hqi.1;have hq1:=hqi.2;rw[hq]at tq;have Hn:=Lh (show UU n0 n1 n2 G w (wr.setCell ⟨w.heap.size,1,Jn⟩ (Ji Jl q)) 2 from⟨m0,q,m2,C0.out.set 1 (Ji Jl q) (by simp),e0,hq.symm,e2,(C1.out.other (show w.heap.size+1≠w.heap.size by omega) _ _),K.out.setCell (p:=⟨w.heap.size,1,Jn⟩) (E7 _) _⟩);clear hqi hq e0 e1 e2;go_wp2_with fail
      go_roundw;case rel=>exact⟨2,2,by decide,rfl,by go_num,Hn.out⟩
      case measure=>simp[intOf]
     ·obtain rfl:z=2:=hzk;obtain rfl:n2=m2:=Eq.symm e2;have a0:wr.cell? ⟨w.heap.size,2,Jn⟩=some (Ji Jl n2):=C0.out.at_ 2;have f0:wr.frozen? ⟨w.heap.size,2,Jn⟩=false:=C0.out.fz 2;have tq:Int.tdiv n2 (G:Int)=n2/(G:Int):=T2.out;have tg:((G:Int) ==0)=false:=by rw[beq_eq_false_iff_ne];omega
      obtain⟨q,hq⟩:∃q,n2/(G:Int)=q:=⟨_,rfl⟩;have hqi:I64 q:=hq ▸ I2.out;have hq0:=hqi.1;have hq1:=hqi.2;rw[hq]at tq;have Hn:=Lh (show UU n0 n1 n2 G w (wr.setCell ⟨w.heap.size,2,Jn⟩ (Ji Jl q)) 3 from⟨m0,m1,q,C0.out.set 2 (Ji Jl q) (by simp),e0,e1,hq.symm,(C1.out.other (show w.heap.size+1≠w.heap.size by omega) _ _),K.out.setCell (p:=⟨w.heap.size,2,Jn⟩) (E7 _) _⟩);clear hqi hq e0 e1 e2;go_wp2_with fail
      go_roundw;case rel=>exact⟨3,3,by decide,rfl,by go_num,Hn.out⟩
      case measure=>simp[intOf]
     ·obtain rfl:z=3:=hzk;obtain rfl:m0=n0/(G:Int):=e0;obtain rfl:m1=n1/(G:Int):=e1;obtain rfl:m2=n2/(G:Int):=e2;have HO:=Lh (Zz (n0/(G:Int)) (n1/(G:Int)) (n2/(G:Int)) wr I0.out I1.out I2.out);generalize n0/(G:Int)=q0 at *
      generalize n1/(G:Int)=q1 at *
      generalize n2/(G:Int)=q2 at *
      have a0:wr.cell? ⟨w.heap.size,0,Jn⟩=some (Ji Jl q0):=C0.out.at_ 0;have a1:wr.cell? ⟨w.heap.size,1,Jn⟩=some (Ji Jl q1):=C0.out.at_ 1;have a2:wr.cell? ⟨w.heap.size,2,Jn⟩=some (Ji Jl q2):=C0.out.at_ 2;go_wp2_with fail
      refine HO.out.mono ?_;rintro e w1⟨x0,x1,x2,rfl,hv,hb⟩;have C1:=Lh (C1.out.keep hb);have K:=Lh (Jd K.out hb);unfold Jw;have Hv:=Lh (hv.wrote C1.out (JA w1 _ x0 x1 x2).1 (JA w1 _ x0 x1 x2).2);have Hf:=Lh (JV K.out (show w.heap.size<=w.heap.size+1 by omega) x0 x1 x2);obtain⟨z0,z1,z2,z3,z4,z5,z6,z7,z8,z9,z10,z11⟩:=Jh.q12 (p:=w.heap.size+1) C1.out;obtain⟨f0,f1,f2,f3,f4,f5,f6,f7,f8,f9,f10,f11⟩:=Jh.z12 (p:=w.heap.size+1) C1.out;clear hv hb a0 a1 a2;go_wp2;exact bodyPost_ret (v:=Jw x0 x1 x2) (by simp[Jw,results,Tryz.results83,go_sem,z0,z1,z2,z3,z4,z5,z6,z7,z8,z9,z10,z11]) rfl ⟨x0,x1,x2,rfl,Hv.out,Hf.out⟩
structure Pent (p:Prop):Prop where
 out:p
section
variable {P:Program} {md:Region.Mode} {ops:Array Oper} {Q:Exit->Act->JW->Prop} {S:JW->Prop} {k:Nat}
def EX(P:Program)(md:Region.Mode)(ops:Array Oper)(Q:Exit->Act->JW->Prop)(I:(Nat->Bool)->Act->JW->Prop)(i:Nat)(o:Oper):Prop:=
 ∀(d:Nat->Bool) (a:Act) (w:JW),I d a w->d i=false->(∀j,Qp md ops i j=true->d j=true)->∀K:Act->JW->Prop,Shut (∀b v,I (also d i) b v->K b v)->Pent (if Region.wanted o (yielded ops a.tmps)=true then Oper.wp P o a w K Q else K (a.put o.dst undef) w)
def Vg(P:Program)(md:Region.Mode)(ops:Array Oper)(Q:Exit->Act->JW->Prop)(I:(Nat->Bool)->Act->JW->Prop):List Nat->Prop
 | []=>True
 | i :: r=>(∃o,ops[i]?=some o/\EX P md ops Q I i o)/\Vg P md ops Q I r
theorem Vg.steps{I:(Nat->Bool)->Act->JW->Prop}:∀ {E:List Nat},Vg P md ops Q I E->UT P md ops Q I E
 | [],_=>trivial
 | _ :: _,⟨⟨o,ho,h⟩,hr⟩=>⟨⟨o,ho,fun d a w hI hi ha K hK=>(h d a w hI hi ha K hK).out⟩,Vg.steps hr⟩
theorem Till.phaseP(E:List Nat)(l1:Array Bool)(m:Nat)(J:Act->(Nat->Bool)->Act->JW->Prop){l0:Array Bool}{n:Nat}{a0:Act}{w0:JW}(hn:n=E.length+m)(hc:UG md ops l0 l1 E=true)(hS:∀d a w,J a0 d a w->S w)
  (h0:J a0 (fun j=>l0.getD j false) a0 w0) (steps:Vg P md ops Q (J a0) E)
  (fin:∀d a w,J a0 d a w->(∀i∈E,d i=true)->Pent (Till P md ops Q S k m l1 a w)):Till P md ops Q S k n l0 a0 w0:=
 Till.phase E l1 m J hn hc hS h0 steps.steps fun d a w h hE=>(fin d a w h hE).out
end
def Xe(w:JW)(t:Value)(q:Rat):Prop:=∃(a:Int) (P:Option Addr) (b:Int) (Q:Option Addr),t= .tuple #[.agg #[Ji Jl a,Jp P,Ji Jl b,Jp Q],Ji Jl 0]/\RatV w a P b Q q
theorem Xe.keep{w w':JW}{t:Value}{q:Rat}(h:Xe w t q)(hb:Below w.heap.size w w'):Xe w' t q:=by
 obtain⟨a,P,b,Q,e,hx⟩:=h;exact⟨a,P,b,Q,e,hx.keep hb⟩
theorem GK{w:JW}{p:Nat}{a:Int}{P:Option Addr}{b:Int}{Q:Option Addr}{q:Rat}{x0 x1 x2 x3:Value}(h:Jh w p [x0,x1,x2,x3])(hp:[x0,x1,x2,x3].all YI=true)(hi:RatV w a P b Q q):VarR (put4 w p (Ji Jl a) (Jp P) (Ji Jl b) (Jp Q)) p a P b Q q:=
 ⟨h.put4 _ _ _ _,hi.wrote h hp (Jk w p _ _ _ _).1 (Jk w p _ _ _ _).2⟩
theorem Xe.wrote{w:JW}{t:Value}{q:Rat}{p:Nat}{x0 x1 x2 x3:Value}(h:Xe w t q)(hc:Jh w p [x0,x1,x2,x3])(hp:[x0,x1,x2,x3].all YI=true){y0 y1 y2 y3:Value}:Xe (put4 w p y0 y1 y2 y3) t q:=by
 obtain⟨a,P,b,Q,e,hx⟩:=h;exact⟨a,P,b,Q,e,hx.wrote hc hp (Jk w p _ _ _ _).1 (Jk w p _ _ _ _).2⟩
theorem Qn.wrote{w:JW}{t:Value}{q:Rat}{p:Nat}{x0 x1 x2 x3:Value}(h:Qn w t q)(hc:Jh w p [x0,x1,x2,x3])(hp:[x0,x1,x2,x3].all YI=true){y0 y1 y2 y3:Value}:Qn (put4 w p y0 y1 y2 y3) t q:=by
 obtain⟨a,P,b,Q,e,hx⟩:=h;exact⟨a,P,b,Q,e,hx.wrote hc hp (Jk w p _ _ _ _).1 (Jk w p _ _ _ _).2⟩
theorem Qh.wrote{w:JW}{t:Value}{z:Int}{p:Nat}{x0 x1 x2 x3:Value}(h:Qh w t z)(hc:Jh w p [x0,x1,x2,x3])(hp:[x0,x1,x2,x3].all YI=true){y0 y1 y2 y3:Value}:Qh (put4 w p y0 y1 y2 y3) t z:=by
 obtain⟨a,P,e,hx⟩:=h;exact⟨a,P,e,hx.wrote hc hp (Jk w p _ _ _ _).1 (Jk w p _ _ _ _).2⟩
def O4(b:Nat)(w:JW)(t:Value)(q:Rat):Prop:=∃(p:Nat) (x:Int) (X:Option Addr) (y:Int) (Y:Option Addr),t=Jp (some ⟨p,0,Jn⟩)/\b<=p/\VarR w p x X y Y q
theorem O4.keep{b:Nat}{w w':JW}{t:Value}{q:Rat}(h:O4 b w t q)(hb:Below w.heap.size w w'):O4 b w' t q:=by
 obtain⟨p,x,X,y,Y,e,hp,hv⟩:=h;exact⟨p,x,X,y,Y,e,hp,hv.keep hb⟩
