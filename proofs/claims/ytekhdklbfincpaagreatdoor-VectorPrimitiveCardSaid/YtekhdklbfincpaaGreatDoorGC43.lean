/- GC43: Vmad Vmk -/
import Derived.Test.YtekhdklbfincpaaGreatDoorGC42
import Derived.Test.YtekhdklbfincpaaGreatDoorGC25
import Derived.Test.YtekhdklbfincpaaGreatDoorGC26
set_option maxRecDepth 100000
set_option maxHeartbeats 16000000
namespace Go.Proofs.YtekhdklbfincpaaGreatDoor
open Go.Value renaming pointer→Jp,int→Ji,string→Js
open Go.IntKind renaming i64→Jl,wrap→M4
open Go.Obj renaming cells→Jc
open _root_.Option renaming none→Jn,some→Jo
open Go.Act renaming put→M0
open Go.RowKit.Below renaming refl→M1
open _root_.Rat renaming num_intCast→M2,den_intCast→M5
open _root_.Nat renaming le_refl→M3,le_trans→M6,le_succ→M8
open Go.World renaming size_alloc→M7
open Go.RowKit
theorem Vn(s0 s1 s2:ByteArray)(w:World):Calls Tryz.prog 63 #[.agg #[Js s0,Js s1,Js s2]] w fun e w'=>e= .returned (.agg #[Js s0,Js s1,Js s2])/\Below w.heap.size w w':=by
 have kb:=Lh (((M1 w.heap.size w).alloc (M3 _) (Jc #[Js s0,Js s1,Js s2] 48)).alloc (by simp) (Jc #[Js s0,Js s1,Js s2] 24));go_enter Tryz.func63,Tryz.ntmps63;go_wp2;exact bodyPost_ret (v:= .agg #[Js s0,Js s1,Js s2]) (by simp[results,Tryz.results63,go_sem]) rfl ⟨rfl,kb.out⟩
theorem Xh{n:Int}(h0:-9223372036854775808<=n)(h1:n<=9223372036854775807):M4 Jl n=n:=by
 simp[M4,IntKind.signed,IntKind.bits];omega
theorem Qs(n:Int):Jj ((n:Int):Rat)=txt n:=by
 unfold Jj;rw[if_pos (M5 n),M2]
def Qc(n r:Int):Rat:=((n:Int):Rat)/(((1+r:Int)):Rat)
def EQ(n r:Int):Bool:=errR (Jj (Qc n r)) ==0 && decide ((Jj (Qc n r)).size<=100) && decide ((Qc n r).num.natAbs<ten 4) && decide ((Qc n r).den<ten 4)
theorem Fu:((List.range 256).all fun i=>(List.range 6).all fun j=>EQ ((i:Int)-128) (j:Int))=true:=by decide +kernel
theorem GK{n r:Int}(h0:-128<=n)(h1:n<=127)(r0:0<=r)(r1:r<=5):errR (Jj (Qc n r))=0/\(Jj (Qc n r)).size<=100/\Few (Qc n r) 4:=by
 have h:=Fu;rw[List.all_eq_true]at h;have h:=h (n+128).toNat (List.mem_range.2 (by omega));rw[List.all_eq_true]at h;have h:=h r.toNat (List.mem_range.2 (by omega));rw[show(((n+128).toNat:Nat):Int)-128=n by omega,show((r.toNat:Nat):Int)=r by omega]at h;unfold EQ at h;simp only[Bool.and_eq_true,beq_iff_eq,decide_eq_true_eq]at h;exact⟨h.1.1.1,h.1.1.2,⟨h.1.2,h.2⟩⟩
structure Sm (n0 n1 n2 d r:Int):Prop where
 x0:-128<=n0
 x1:n0<=127
 y0:-128<=n1
 y1:n1<=127
 z0:-128<=n2
 z1:n2<=127
 d0:0<=d
 d1:d<=255
 r_:d%6=r
theorem Sm.r0{n0 n1 n2 d r:Int}(h:Sm n0 n1 n2 d r):0<=r:=by have:=h.r_;omega
theorem Sm.r1{n0 n1 n2 d r:Int}(h:Sm n0 n1 n2 d r):r<=5:=by have:=h.r_;omega
def smV(n0 n1 n2 d:Int):Value:= .agg #[Ji .i8 n0,Ji .i8 n1,Ji .i8 n2,Ji .u8 d]
theorem Fl(n0 n1 n2 d r:Int)(w:World)(h:Sm n0 n1 n2 d r):Calls Tryz.prog 22 #[smV n0 n1 n2 d] w fun e w'=>e= .returned (.agg #[Js (Jj (Qc n0 r)),Js (Jj (Qc n1 r)),Js (Jj (Qc n2 r))])/\Below w.heap.size w w':=by
 have hr0:=h.r0;have hr1:=h.r1;have hw0:M4 Jl n0=n0:=Xh (by have:=h.x0;omega) (by have:=h.x1;omega);have hw1:M4 Jl n1=n1:=Xh (by have:=h.y0;omega) (by have:=h.y1;omega);have hw2:M4 Jl n2=n2:=Xh (by have:=h.z0;omega) (by have:=h.z1;omega);have hwr:M4 Jl r=r:=Xh (by omega) (by omega);have hw1r:M4 Jl (1+r)=1+r:=Xh (by omega) (by omega);have hwu:M4 .u8 r=r:=by unfold M4;simp[go_sem];omega
 have htm:Int.tmod d 6=r:=by rw[Int.tmod_eq_emod_of_nonneg h.d0];exact h.r_
 have hem:d%6=r:=h.r_;have HA0:=Lh (fun w'=>Y9 n0 w' ⟨by have:=h.x0;omega,by have:=h.x1;omega⟩);have HC0:=fun w'=>UB (p:=((n0:Int):Rat)) (q:=((1+r:Int):Rat)) (k:=4) (m:=4) ⟨by rw[M2];have:=h.x0;have:=h.x1;show n0.natAbs<10000;omega,by rw[M5];decide⟩ ⟨by rw[M2];show(1+r).natAbs<10000;omega,by rw[M5];decide⟩ (by decide) (by decide) (by rw[M2];omega) w';simp only[Qs]at HC0;have HA1:=Lh (fun w'=>Y9 n1 w' ⟨by have:=h.y0;omega,by have:=h.y1;omega⟩);have HC1:=fun w'=>UB (p:=((n1:Int):Rat)) (q:=((1+r:Int):Rat)) (k:=4) (m:=4) ⟨by rw[M2];have:=h.y0;have:=h.y1;show n1.natAbs<10000;omega,by rw[M5];decide⟩ ⟨by rw[M2];show(1+r).natAbs<10000;omega,by rw[M5];decide⟩ (by decide) (by decide) (by rw[M2];omega) w';simp only[Qs]at HC1;have HA2:=Lh (fun w'=>Y9 n2 w' ⟨by have:=h.z0;omega,by have:=h.z1;omega⟩);have HC2:=fun w'=>UB (p:=((n2:Int):Rat)) (q:=((1+r:Int):Rat)) (k:=4) (m:=4) ⟨by rw[M2];have:=h.z0;have:=h.z1;show n2.natAbs<10000;omega,by rw[M5];decide⟩ ⟨by rw[M2];show(1+r).natAbs<10000;omega,by rw[M5];decide⟩ (by decide) (by decide) (by rw[M2];omega) w';simp only[Qs]at HC2;have HBB:=Lh (fun w'=>Y9 (1+r) w' ⟨by omega,by omega⟩);obtain⟨a0,ha0⟩:∃s,txt n0=s:=⟨_,rfl⟩;obtain⟨c0,hc0⟩:∃s,Jj (Qc n0 r)=s:=⟨_,rfl⟩;rw[ha0]at HA0 HC0;rw[show Jj (((n0:Int):Rat)/(((1+r:Int)):Rat))=c0 from hc0]at HC0;rw[hc0];obtain⟨a1,ha1⟩:∃s,txt n1=s:=⟨_,rfl⟩;obtain⟨c1,hc1⟩:∃s,Jj (Qc n1 r)=s:=⟨_,rfl⟩;rw[ha1]at HA1 HC1;rw[show Jj (((n1:Int):Rat)/(((1+r:Int)):Rat))=c1 from hc1]at HC1;rw[hc1];obtain⟨a2,ha2⟩:∃s,txt n2=s:=⟨_,rfl⟩
 obtain⟨c2,hc2⟩:∃s,Jj (Qc n2 r)=s:=⟨_,rfl⟩;rw[ha2]at HA2 HC2;rw[show Jj (((n2:Int):Rat)/(((1+r:Int)):Rat))=c2 from hc2]at HC2;rw[hc2];obtain⟨bb,hbb⟩:∃s,txt (1+r)=s:=⟨_,rfl⟩;rw[hbb]at HBB HC0 HC1 HC2;have HC0:=Lh HC0;have HC1:=Lh HC1;have HC2:=Lh HC2;have kb:=(((M1 w.heap.size w).alloc (M3 _) (Jc #[Ji .i8 n0,Ji .i8 n1,Ji .i8 n2,Ji .u8 d] 44)).alloc (by simp) (Jc #[Js ⟨#[]⟩,Js ⟨#[]⟩,Js ⟨#[]⟩] 48)).alloc (by simp;omega) (Jc #[Js ⟨#[]⟩,Js ⟨#[]⟩,Js ⟨#[]⟩] 48);have C0:=((Jh.new w #[Ji .i8 n0,Ji .i8 n1,Ji .i8 n2,Ji .u8 d] 44).keep ((M1 _ _).alloc (M3 _) (Jc #[Js ⟨#[]⟩,Js ⟨#[]⟩,Js ⟨#[]⟩] 48))).keep ((M1 _ _).alloc (M3 _) (Jc #[Js ⟨#[]⟩,Js ⟨#[]⟩,Js ⟨#[]⟩] 48));have C1:=(Jh.new (w.alloc (Jc #[Ji .i8 n0,Ji .i8 n1,Ji .i8 n2,Ji .u8 d] 44)) #[Js ⟨#[]⟩,Js ⟨#[]⟩,Js ⟨#[]⟩] 48).keep ((M1 _ _).alloc (M3 _) (Jc #[Js ⟨#[]⟩,Js ⟨#[]⟩,Js ⟨#[]⟩] 48));have C2:=Jh.new ((w.alloc (Jc #[Ji .i8 n0,Ji .i8 n1,Ji .i8 n2,Ji .u8 d] 44)).alloc (Jc #[Js ⟨#[]⟩,Js ⟨#[]⟩,Js ⟨#[]⟩] 48)) #[Js ⟨#[]⟩,Js ⟨#[]⟩,Js ⟨#[]⟩] 48;have hs:(((w.alloc (Jc #[Ji .i8 n0,Ji .i8 n1,Ji .i8 n2,Ji .u8 d] 44)).alloc (Jc #[Js ⟨#[]⟩,Js ⟨#[]⟩,Js ⟨#[]⟩] 48)).alloc (Jc #[Js ⟨#[]⟩,Js ⟨#[]⟩,Js ⟨#[]⟩] 48)).heap.size=w.heap.size+1+1+1:=by simp
 simp only[M7]at C1 C2;obtain⟨W,hW⟩:∃u,((w.alloc (Jc #[Ji .i8 n0,Ji .i8 n1,Ji .i8 n2,Ji .u8 d] 44)).alloc (Jc #[Js ⟨#[]⟩,Js ⟨#[]⟩,Js ⟨#[]⟩] 48)).alloc (Jc #[Js ⟨#[]⟩,Js ⟨#[]⟩,Js ⟨#[]⟩] 48)=u:=⟨_,rfl⟩;rw[hW]at kb C0 C1 C2 hs;have Hst:=Lh (show Xf w (w.heap.size+2) [c0,c1,c2] 0 W from⟨⟨[⟨#[]⟩,⟨#[]⟩,⟨#[]⟩],rfl,C2,fun i q h=>absurd h (Nat.not_lt_zero _)⟩,C1,kb⟩);have HX:=Lh (fun wr (hb:Below (w.heap.size+1) W wr) (i:Nat)=>(hb.cell (p:=⟨w.heap.size,i,Jn⟩) (Nat.lt_succ_self _)).trans (C0.at_ i));have HZ:=Lh (show W.heap.size=w.heap.size+3 from hs);clear h hr0 hr1 hc0 hc1 hc2 ha0 ha1 ha2 hbb kb C0 C1 C2 hs;unfold smV;go_enter Tryz.func22,Tryz.ntmps22;go_wp2_with fail
 try simp only[hW]
 clear hW;go_loopw [4] (fun v wr=>∃(k:Nat) (z:Int),k<=3/\z=(k:Int)/\v=Ji Jl z/\Xf w (w.heap.size+2) [c0,c1,c2] k wr/\Below (w.heap.size+1) W wr) (fun v _=>3-(intOf v).toNat)
 case atStart=>exact⟨0,0,by decide,rfl,rfl,Hst.out,M1 _ _⟩
 case round=>
  obtain⟨k,z,hk,hzk,rfl,⟨⟨ss,hl,hc,hr⟩,hz,hb⟩,hb1⟩:=hrel;obtain⟨t0,t1,t2,rfl⟩:∃x y z,ss=[x,y,z]:=Vr hl;have Hc:=Lh (show Jh wr (w.heap.size+1+1) _ from hc);have Hr:=Lh hr;have Hz:=Lh (show Jh wr (w.heap.size+1) _ from hz);have Hb:=Lh hb;have Hb1:=Lh hb1;have Hsz:=Lh (show w.heap.size+3<=wr.heap.size by have:=hb1.size;rw[HZ.out]at this;exact this);clear hl hc hr hz hb hb1;obtain rfl|rfl|rfl|rfl:k=0\/k=1\/k=2\/k=3:=by omega
  ·obtain rfl:z=0:=hzk;have HS:=Lh (fun w' (hb:Below wr.heap.size wr w')=>have hb2:=Hb1.out.trans (hb.mono (M6 (show w.heap.size+1<=w.heap.size+3 by omega) Hsz.out));(⟨HX.out w' hb2 0,HX.out w' hb2 3⟩:w'.cell? ⟨w.heap.size,0,Jn⟩=Jo (Ji .i8 n0)/\w'.cell? ⟨w.heap.size,3,Jn⟩=Jo (Ji .u8 d)));go_upto_region 5 with fail
   refine Till.begin 15 (fun w'=>w'.cell? ⟨w.heap.size,0,Jn⟩=Jo (Ji .i8 n0)/\w'.cell? ⟨w.heap.size,3,Jn⟩=Jo (Ji .u8 d)) (by kernel_rfl) (HS.out _ (M1 _ _).drew) (fun hH=>?_);clear hH;have HB:=Lh (M1 wr.heap.size wr).drew;generalize wr.drew=v0 at HB ⊢;try simp only[Pls]
   refine Till.tk 0 14 9 (Ji Jl 0) (HS.out _ HB.out) ?_;try simp only[M0,Pls]
   refine Till.tk 1 3 10 (Ji Jl 0) (HS.out _ HB.out) ?_;try simp only[M0,Pls]
   refine Till.tk 2 3 11 (Jp (Jo ⟨w.heap.size,0,Jn⟩)) (HS.out _ HB.out) ?_;try simp only[M0,Pls]
   refine Till.tk 3 4 12 (Jp (Jo ⟨w.heap.size,0,Jn⟩)) (HS.out _ HB.out) ?_;try simp only[M0,Pls]
   refine Till.tk 4 5 13 (Ji .i8 n0) (HS.out _ HB.out) ?_;try simp only[M0,Pls]
   refine Till.tk 5 6 14 (Ji Jl n0) (HS.out _ HB.out) ?_;try simp only[M0,Pls]
   refine Till.tk 7 8 16 (Jp (Jo ⟨w.heap.size,3,Jn⟩)) (HS.out _ HB.out) ?_;try simp only[M0,Pls]
   refine Till.tk 8 9 17 (Ji .u8 d) (HS.out _ HB.out) ?_;try simp only[M0,Pls]
   refine Till.tk 9 10 18 (Ji .u8 r) (HS.out _ HB.out) ?_;try simp only[M0,Pls]
   refine Till.tk 10 11 19 (Ji Jl r) (HS.out _ HB.out) ?_;try simp only[M0,Pls]
   refine Till.tk 11 12 20 (Ji Jl (1+r)) (HS.out _ HB.out) ?_;try simp only[M0,Pls]
   refine Till.one (i:=6) (by kernel_rfl) rfl (fun K hK=>?_);go_simp;refine(HA0.out _).mono ?_;rintro e v1⟨rfl,g⟩;replace HB:=Lh (Jd HB.out g);clear g;go_wp2_with fail
   refine hK.out _ _ (fun _=>HS.out _ HB.out) ?_;clear hK K;try simp only[Pls]
   refine Till.one (i:=12) (by kernel_rfl) rfl (fun K hK=>?_);go_simp;refine(HBB.out _).mono ?_;rintro e v2⟨rfl,g⟩;replace HB:=Lh (Jd HB.out g);clear g;go_wp2_with fail
   refine hK.out _ _ (fun _=>HS.out _ HB.out) ?_;clear hK K;try simp only[Pls]
   refine Till.one (i:=13) (by kernel_rfl) rfl (fun K hK=>?_);go_simp;refine(HC0.out _).mono ?_;rintro e v3⟨rfl,g⟩;replace HB:=Lh (Jd HB.out g);have Cv:=Hc.out.keep HB.out;have f0:v3.frozen? ⟨w.heap.size+1+1,0,Jn⟩=false:=Cv.fz 0;have m0:v3.cell? ⟨w.heap.size+1+1,0,Jn⟩=Jo (Js t0):=Cv.at_ 0;clear Cv;clear g;go_wp2_with fail
   refine hK.out _ _ (fun _=>HS.out _ HB.out) ?_;clear hK K;try simp only[Pls]
   refine Till.one (i:=14) (by kernel_rfl) rfl (fun K hK=>?_);go_simp;refine hK.out _ _ (fun _=>HS.out _ HB.out) ?_;clear hK K;try simp only[Pls]
   refine Till.one (i:=15) (by kernel_rfl) rfl (fun K hK=>?_);go_simp;refine hK.out _ _ (fun h=>absurd h (by simp)) ?_;clear hK K;try simp only[Pls]
   refine Till.done (by kernel_rfl) ?_ _;have hB:=HB.out;have Hb:=Lh (Jd Hb.out hB);have Hb1:=Lh (Hb1.out.trans (hB.mono (M6 (show w.heap.size+1<=w.heap.size+3 by omega) Hsz.out)));have Hf:=Lh (QS (k:=0) (by decide) rfl (Hc.out.keep hB) rfl Hr.out (Hz.out.keep hB) (show w.heap.size<w.heap.size+1+1 by omega) Hb.out);have Hg:=Lh (Hb1.out.setCell (p:=⟨w.heap.size+1+1,0,Jn⟩) (show w.heap.size+1<=w.heap.size+1+1 by omega) (Js c0));clear hB;go_wp2_with fail
   go_roundw;case rel=>exact⟨1,1,by decide,rfl,by go_num,Hf.out,Hg.out⟩
   case measure=>simp[intOf]
  ·obtain rfl:z=1:=hzk;have HS:=Lh (fun w' (hb:Below wr.heap.size wr w')=>have hb2:=Hb1.out.trans (hb.mono (M6 (show w.heap.size+1<=w.heap.size+3 by omega) Hsz.out));(⟨HX.out w' hb2 1,HX.out w' hb2 3⟩:w'.cell? ⟨w.heap.size,1,Jn⟩=Jo (Ji .i8 n1)/\w'.cell? ⟨w.heap.size,3,Jn⟩=Jo (Ji .u8 d)));go_upto_region 5 with fail
   refine Till.begin 15 (fun w'=>w'.cell? ⟨w.heap.size,1,Jn⟩=Jo (Ji .i8 n1)/\w'.cell? ⟨w.heap.size,3,Jn⟩=Jo (Ji .u8 d)) (by kernel_rfl) (HS.out _ (M1 _ _).drew) (fun hH=>?_);clear hH;have HB:=Lh (M1 wr.heap.size wr).drew;generalize wr.drew=v0 at HB ⊢;try simp only[Pls]
   refine Till.tk 0 14 9 (Ji Jl 1) (HS.out _ HB.out) ?_;try simp only[M0,Pls]
   refine Till.tk 1 3 10 (Ji Jl 1) (HS.out _ HB.out) ?_;try simp only[M0,Pls]
   refine Till.tk 2 3 11 (Jp (Jo ⟨w.heap.size,0,Jn⟩)) (HS.out _ HB.out) ?_;try simp only[M0,Pls]
   refine Till.tk 3 4 12 (Jp (Jo ⟨w.heap.size,1,Jn⟩)) (HS.out _ HB.out) ?_;try simp only[M0,Pls]
   refine Till.tk 4 5 13 (Ji .i8 n1) (HS.out _ HB.out) ?_;try simp only[M0,Pls]
   refine Till.tk 5 6 14 (Ji Jl n1) (HS.out _ HB.out) ?_;try simp only[M0,Pls]
   refine Till.tk 7 8 16 (Jp (Jo ⟨w.heap.size,3,Jn⟩)) (HS.out _ HB.out) ?_;try simp only[M0,Pls]
   refine Till.tk 8 9 17 (Ji .u8 d) (HS.out _ HB.out) ?_;try simp only[M0,Pls]
   refine Till.tk 9 10 18 (Ji .u8 r) (HS.out _ HB.out) ?_;try simp only[M0,Pls]
   refine Till.tk 10 11 19 (Ji Jl r) (HS.out _ HB.out) ?_;try simp only[M0,Pls]
   refine Till.tk 11 12 20 (Ji Jl (1+r)) (HS.out _ HB.out) ?_;try simp only[M0,Pls]
   refine Till.one (i:=6) (by kernel_rfl) rfl (fun K hK=>?_);go_simp;refine(HA1.out _).mono ?_;rintro e v1⟨rfl,g⟩;replace HB:=Lh (Jd HB.out g);clear g;go_wp2_with fail
   refine hK.out _ _ (fun _=>HS.out _ HB.out) ?_;clear hK K;try simp only[Pls]
   refine Till.one (i:=12) (by kernel_rfl) rfl (fun K hK=>?_);go_simp;refine(HBB.out _).mono ?_;rintro e v2⟨rfl,g⟩;replace HB:=Lh (Jd HB.out g);clear g;go_wp2_with fail
   refine hK.out _ _ (fun _=>HS.out _ HB.out) ?_;clear hK K;try simp only[Pls]
   refine Till.one (i:=13) (by kernel_rfl) rfl (fun K hK=>?_);go_simp;refine(HC1.out _).mono ?_;rintro e v3⟨rfl,g⟩;replace HB:=Lh (Jd HB.out g);have Cv:=Hc.out.keep HB.out;have f0:v3.frozen? ⟨w.heap.size+1+1,1,Jn⟩=false:=Cv.fz 1;have m0:v3.cell? ⟨w.heap.size+1+1,1,Jn⟩=Jo (Js t1):=Cv.at_ 1;clear Cv;clear g;go_wp2_with fail
   refine hK.out _ _ (fun _=>HS.out _ HB.out) ?_;clear hK K;try simp only[Pls]
   refine Till.one (i:=14) (by kernel_rfl) rfl (fun K hK=>?_);go_simp;refine hK.out _ _ (fun _=>HS.out _ HB.out) ?_;clear hK K;try simp only[Pls]
   refine Till.one (i:=15) (by kernel_rfl) rfl (fun K hK=>?_);go_simp;refine hK.out _ _ (fun h=>absurd h (by simp)) ?_;clear hK K;try simp only[Pls]
   refine Till.done (by kernel_rfl) ?_ _;have hB:=HB.out;have Hb:=Lh (Jd Hb.out hB);have Hb1:=Lh (Hb1.out.trans (hB.mono (M6 (show w.heap.size+1<=w.heap.size+3 by omega) Hsz.out)));have Hf:=Lh (QS (k:=1) (by decide) rfl (Hc.out.keep hB) rfl Hr.out (Hz.out.keep hB) (show w.heap.size<w.heap.size+1+1 by omega) Hb.out);have Hg:=Lh (Hb1.out.setCell (p:=⟨w.heap.size+1+1,1,Jn⟩) (show w.heap.size+1<=w.heap.size+1+1 by omega) (Js c1));clear hB;go_wp2_with fail
   go_roundw;case rel=>exact⟨2,2,by decide,rfl,by go_num,Hf.out,Hg.out⟩
   case measure=>simp[intOf]
  ·obtain rfl:z=2:=hzk;have HS:=Lh (fun w' (hb:Below wr.heap.size wr w')=>have hb2:=Hb1.out.trans (hb.mono (M6 (show w.heap.size+1<=w.heap.size+3 by omega) Hsz.out));(⟨HX.out w' hb2 2,HX.out w' hb2 3⟩:w'.cell? ⟨w.heap.size,2,Jn⟩=Jo (Ji .i8 n2)/\w'.cell? ⟨w.heap.size,3,Jn⟩=Jo (Ji .u8 d)));go_upto_region 5 with fail
   refine Till.begin 15 (fun w'=>w'.cell? ⟨w.heap.size,2,Jn⟩=Jo (Ji .i8 n2)/\w'.cell? ⟨w.heap.size,3,Jn⟩=Jo (Ji .u8 d)) (by kernel_rfl) (HS.out _ (M1 _ _).drew) (fun hH=>?_);clear hH;have HB:=Lh (M1 wr.heap.size wr).drew;generalize wr.drew=v0 at HB ⊢;try simp only[Pls]
   refine Till.tk 0 14 9 (Ji Jl 2) (HS.out _ HB.out) ?_;try simp only[M0,Pls]
   refine Till.tk 1 3 10 (Ji Jl 2) (HS.out _ HB.out) ?_;try simp only[M0,Pls]
   refine Till.tk 2 3 11 (Jp (Jo ⟨w.heap.size,0,Jn⟩)) (HS.out _ HB.out) ?_;try simp only[M0,Pls]
   refine Till.tk 3 4 12 (Jp (Jo ⟨w.heap.size,2,Jn⟩)) (HS.out _ HB.out) ?_;try simp only[M0,Pls]
   refine Till.tk 4 5 13 (Ji .i8 n2) (HS.out _ HB.out) ?_;try simp only[M0,Pls]
   refine Till.tk 5 6 14 (Ji Jl n2) (HS.out _ HB.out) ?_;try simp only[M0,Pls]
   refine Till.tk 7 8 16 (Jp (Jo ⟨w.heap.size,3,Jn⟩)) (HS.out _ HB.out) ?_;try simp only[M0,Pls]
   refine Till.tk 8 9 17 (Ji .u8 d) (HS.out _ HB.out) ?_;try simp only[M0,Pls]
   refine Till.tk 9 10 18 (Ji .u8 r) (HS.out _ HB.out) ?_;try simp only[M0,Pls]
   refine Till.tk 10 11 19 (Ji Jl r) (HS.out _ HB.out) ?_;try simp only[M0,Pls]
   refine Till.tk 11 12 20 (Ji Jl (1+r)) (HS.out _ HB.out) ?_;try simp only[M0,Pls]
   refine Till.one (i:=6) (by kernel_rfl) rfl (fun K hK=>?_);go_simp;refine(HA2.out _).mono ?_;rintro e v1⟨rfl,g⟩;replace HB:=Lh (Jd HB.out g);clear g;go_wp2_with fail
   refine hK.out _ _ (fun _=>HS.out _ HB.out) ?_;clear hK K;try simp only[Pls]
   refine Till.one (i:=12) (by kernel_rfl) rfl (fun K hK=>?_);go_simp;refine(HBB.out _).mono ?_;rintro e v2⟨rfl,g⟩;replace HB:=Lh (Jd HB.out g);clear g;go_wp2_with fail
   refine hK.out _ _ (fun _=>HS.out _ HB.out) ?_;clear hK K;try simp only[Pls]
   refine Till.one (i:=13) (by kernel_rfl) rfl (fun K hK=>?_);go_simp;refine(HC2.out _).mono ?_;rintro e v3⟨rfl,g⟩;replace HB:=Lh (Jd HB.out g);have Cv:=Hc.out.keep HB.out;have f0:v3.frozen? ⟨w.heap.size+1+1,2,Jn⟩=false:=Cv.fz 2;have m0:v3.cell? ⟨w.heap.size+1+1,2,Jn⟩=Jo (Js t2):=Cv.at_ 2;clear Cv;clear g;go_wp2_with fail
   refine hK.out _ _ (fun _=>HS.out _ HB.out) ?_;clear hK K;try simp only[Pls]
   refine Till.one (i:=14) (by kernel_rfl) rfl (fun K hK=>?_);go_simp;refine hK.out _ _ (fun _=>HS.out _ HB.out) ?_;clear hK K;try simp only[Pls]
   refine Till.one (i:=15) (by kernel_rfl) rfl (fun K hK=>?_);go_simp;refine hK.out _ _ (fun h=>absurd h (by simp)) ?_;clear hK K;try simp only[Pls]
   refine Till.done (by kernel_rfl) ?_ _;have hB:=HB.out;have Hb:=Lh (Jd Hb.out hB);have Hb1:=Lh (Hb1.out.trans (hB.mono (M6 (show w.heap.size+1<=w.heap.size+3 by omega) Hsz.out)));have Hf:=Lh (QS (k:=2) (by decide) rfl (Hc.out.keep hB) rfl Hr.out (Hz.out.keep hB) (show w.heap.size<w.heap.size+1+1 by omega) Hb.out);have Hg:=Lh (Hb1.out.setCell (p:=⟨w.heap.size+1+1,2,Jn⟩) (show w.heap.size+1<=w.heap.size+1+1 by omega) (Js c2));clear hB;go_wp2_with fail
   go_roundw;case rel=>exact⟨3,3,by decide,rfl,by go_num,Hf.out,Hg.out⟩
   case measure=>simp[intOf]
  ·obtain rfl:z=3:=hzk;obtain rfl:t0=c0:=by have:=Hr.out 0 c0 (by decide) rfl;simpa using this
   obtain rfl:t1=c1:=by have:=Hr.out 1 c1 (by decide) rfl;simpa using this
   obtain rfl:t2=c2:=by have:=Hr.out 2 c2 (by decide) rfl;simpa using this
   have f0:wr.frozen? ⟨w.heap.size+1,0,Jn⟩=false:=Hz.out.fz 0;have z0:wr.cell? ⟨w.heap.size+1,0,Jn⟩=Jo (Js ⟨#[]⟩):=Hz.out.at_ 0;have m0:wr.cell? ⟨w.heap.size+1+1,0,Jn⟩=Jo (Js t0):=Hc.out.at_ 0;have f1:wr.frozen? ⟨w.heap.size+1,1,Jn⟩=false:=Hz.out.fz 1;have z1:wr.cell? ⟨w.heap.size+1,1,Jn⟩=Jo (Js ⟨#[]⟩):=Hz.out.at_ 1;have m1:wr.cell? ⟨w.heap.size+1+1,1,Jn⟩=Jo (Js t1):=Hc.out.at_ 1;have f2:wr.frozen? ⟨w.heap.size+1,2,Jn⟩=false:=Hz.out.fz 2;have z2:wr.cell? ⟨w.heap.size+1,2,Jn⟩=Jo (Js ⟨#[]⟩):=Hz.out.at_ 2;have m2:wr.cell? ⟨w.heap.size+1+1,2,Jn⟩=Jo (Js t2):=Hc.out.at_ 2;have Hf:=Lh (((Hb.out.setCell (p:=⟨w.heap.size+1,0,Jn⟩) (M8 _) (Js t0)).setCell (p:=⟨w.heap.size+1,1,Jn⟩) (M8 _) (Js t1)).setCell (p:=⟨w.heap.size+1,2,Jn⟩) (M8 _) (Js t2));go_wp2;exact bodyPost_ret (v:= .agg #[Js t0,Js t1,Js t2]) (by simp[results,Tryz.results22,go_sem,z0,z1,z2]) rfl ⟨rfl,Hf.out⟩
theorem Mm(n0 n1 n2 d r:Int)(w:World)(h:Sm n0 n1 n2 d r)(hg:Good w):Calls Tryz.prog 21 #[smV n0 n1 n2 d] w (V6 (Qc n0 r) (Qc n1 r) (Qc n2 r) w):=by
 obtain⟨e0,s0,f0⟩:=GK h.x0 h.x1 h.r0 h.r1;obtain⟨e1,s1,f1⟩:=GK h.y0 h.y1 h.r0 h.r1;obtain⟨e2,s2,f2⟩:=GK h.z0 h.z1 h.r0 h.r1;have kb:=((M1 w.heap.size w).alloc (M3 _) (Jc #[Ji .i8 n0,Ji .i8 n1,Ji .i8 n2,Ji .u8 d] 44)).alloc (by simp) (Jc #[Ji Jl 0,Jp Jn,Ji Jl 0,Jp Jn,Ji Jl 0,Jp Jn,Ji Jl 0,Jp Jn,Ji Jl 0,Jp Jn,Ji Jl 0,Jp Jn] 32);have C0:=(Jh.new w #[Ji .i8 n0,Ji .i8 n1,Ji .i8 n2,Ji .u8 d] 44).keep ((M1 _ _).alloc (M3 _) (Jc #[Ji Jl 0,Jp Jn,Ji Jl 0,Jp Jn,Ji Jl 0,Jp Jn,Ji Jl 0,Jp Jn,Ji Jl 0,Jp Jn,Ji Jl 0,Jp Jn] 32));have C1:=JZ (w.alloc (Jc #[Ji .i8 n0,Ji .i8 n1,Ji .i8 n2,Ji .u8 d] 44)) Jm Jm Jm;simp only[M7]at C1;have HT:=Fl n0 n1 n2 d r ((w.alloc (Jc #[Ji .i8 n0,Ji .i8 n1,Ji .i8 n2,Ji .u8 d] 44)).alloc (Jc #[Ji Jl 0,Jp Jn,Ji Jl 0,Jp Jn,Ji Jl 0,Jp Jn,Ji Jl 0,Jp Jn,Ji Jl 0,Jp Jn,Ji Jl 0,Jp Jn] 32)) h;obtain⟨W,hW⟩:∃u,(w.alloc (Jc #[Ji .i8 n0,Ji .i8 n1,Ji .i8 n2,Ji .u8 d] 44)).alloc (Jc #[Ji Jl 0,Jp Jn,Ji Jl 0,Jp Jn,Ji Jl 0,Jp Jn,Ji Jl 0,Jp Jn,Ji Jl 0,Jp Jn,Ji Jl 0,Jp Jn] 32)=u:=⟨_,rfl⟩;simp only[Jm]at C1;rw[hW]at kb C0 C1 HT;have ev:errV 65536 (Jj (Qc n0 r)) (Jj (Qc n1 r)) (Jj (Qc n2 r))=0:=by
  have em:∀s:ByteArray,s.size<=100->errR s=0->errM 65536 s=0:=fun s h1 h2=>by unfold errM;rw[if_neg (by omega)];exact h2
  unfold errV;rw[em _ s0 e0,em _ s1 e1,em _ s2 e2];simp
 have HR:=fun w' (hb:Below w.heap.size w w')=>Fi (Jj (Qc n0 r)) (Jj (Qc n1 r)) (Jj (Qc n2 r)) w' (by omega) (by omega) (by omega) (hg.below hb);unfold Gj at HR;rw[ev]at HR;have HQ:=Lh (fun(w':World) (r0 r1 r2:R4) (hr:RatT w' r0 (Jj (Qc n0 r))/\RatT w' r1 (Jj (Qc n1 r))/\RatT w' r2 (Jj (Qc n2 r)))=>(⟨hr.1.at_ rfl,hr.2.1.at_ rfl,hr.2.2.at_ rfl⟩:VecV w' r0 r1 r2 (Qc n0 r) (Qc n1 r) (Qc n2 r)));generalize Qc n0 r=q0 at *
 generalize Qc n1 r=q1 at *
 generalize Qc n2 r=q2 at *
 generalize Jj q0=c0 at *
 generalize Jj q1=c1 at *
 generalize Jj q2=c2 at *
 have HR:=Lh HR;have HT:=Lh HT;have R:=Lh (show Jh W (w.heap.size+1) (flat [Jm,Jm,Jm])from C1);have Kb:=Lh kb;have a0:W.cell? ⟨w.heap.size,0,Jn⟩=Jo (Ji .i8 n0):=C0.at_ 0;have a1:W.cell? ⟨w.heap.size,1,Jn⟩=Jo (Ji .i8 n1):=C0.at_ 1;have a2:W.cell? ⟨w.heap.size,2,Jn⟩=Jo (Ji .i8 n2):=C0.at_ 2;have a3:W.cell? ⟨w.heap.size,3,Jn⟩=Jo (Ji .u8 d):=C0.at_ 3;clear e0 s0 f0 e1 s1 f1 e2 s2 f2 kb C0 C1 ev h hg;unfold smV at *
 go_enter Tryz.func21,Tryz.ntmps21;go_wp2_with fail
 try simp only[hW]
 refine HT.out.mono ?_;rintro e w1⟨rfl,h1⟩;have R:=Lh (R.out.keep h1);have K:=Lh (Jd Kb.out h1);clear hW HT h1 a0 a1 a2 a3;go_wp2_with fail
 refine(Vn c0 c1 c2 _).mono ?_;rintro e w2⟨rfl,h1⟩;have R:=Lh (R.out.keep h1);have K:=Lh (Jd K.out h1);clear h1;go_wp2_with fail
 refine(HR.out _ K.out).mono ?_;rintro e w3⟨r0,r1,r2,rfl,hr,_,h1⟩;have hv:=HQ.out _ _ _ _ (hr (by trivial));have kv:=(M1 w3.heap.size w3).alloc (M3 _) (Jc #[Ji Jl r0.1,Jp r0.2.1,Ji Jl r0.2.2.1,Jp r0.2.2.2,Ji Jl r1.1,Jp r1.2.1,Ji Jl r1.2.2.1,Jp r1.2.2.2,Ji Jl r2.1,Jp r2.2.1,Ji Jl r2.2.2.1,Jp r2.2.2.2] 32);have hV:=VarV.new hv;have R:=Lh ((R.out.keep h1).keep kv);have K:=Lh (Jd (Jd K.out h1) kv);obtain⟨p3,hp3⟩:∃p,w3.heap.size=p:=⟨_,rfl⟩;obtain⟨w4,hw4⟩:∃u,w3.alloc (Jc #[Ji Jl r0.1,Jp r0.2.1,Ji Jl r0.2.2.1,Jp r0.2.2.2,Ji Jl r1.1,Jp r1.2.1,Ji Jl r1.2.2.1,Jp r1.2.2.2,Ji Jl r2.1,Jp r2.2.1,Ji Jl r2.2.2.1,Jp r2.2.2.2] 32)=u:=⟨_,rfl⟩;rw[hw4]at R K hV;rw[hp3]at hV;have V:=Lh hV;clear HR HQ hr h1 hv kv hV;unfold Jv;obtain⟨m0,m1,m2,m3,m4,m5,m6,m7,m8,m9,m10,m11⟩:=Jh.r12 (p:=p3) V.out.cells;have Hv:=Lh (V.out.vec.wrote R.out (JF w4 _ r0 r1 r2).1 (JF w4 _ r0 r1 r2).2);have Hf:=Lh (JJ K.out (show w.heap.size<=w.heap.size+1 by omega) r0 r1 r2);obtain⟨z0,z1,z2,z3,z4,z5,z6,z7,z8,z9,z10,z11⟩:=Jh.q12 (p:=w.heap.size+1) R.out;obtain⟨f0,f1,f2,f3,f4,f5,f6,f7,f8,f9,f10,f11⟩:=Jh.z12 (p:=w.heap.size+1) R.out;go_wp2_with fail
 try simp only[hp3,hw4]
 go_wp2;exact bodyPost_ret (v:=Jv r0 r1 r2) (by simp[Jv,results,Tryz.results21,go_sem,z0,z1,z2,z3,z4,z5,z6,z7,z8,z9,z10,z11]) rfl ⟨r0,r1,r2,rfl,Hv.out,Hf.out⟩
theorem isT_any(x0 x1 x2:R4)(q0 q1 q2:Rat)(s0 s1 s2:ByteArray)(k:Nat)(w:World)(h:VecV w x0 x1 x2 q0 q1 q2)(f:Few3 k q0 q1 q2)(hk:k<=3000)(h0:Jj q0=s0)(h1:Jj q1=s1)(h2:Jj q2=s2)(hg:Good w) :
  Calls Tryz.prog 17 #[Jv x0 x1 x2,.agg #[Js s0,Js s1,Js s2]] w fun e w'=>e= .returned (.bool true)/\Below w.heap.size w w':=by
 have kb:=((M1 w.heap.size w).alloc (M3 _) (Jc #[Ji Jl x0.1,Jp x0.2.1,Ji Jl x0.2.2.1,Jp x0.2.2.2,Ji Jl x1.1,Jp x1.2.1,Ji Jl x1.2.2.1,Jp x1.2.2.2,Ji Jl x2.1,Jp x2.2.1,Ji Jl x2.2.2.1,Jp x2.2.2.2] 32)).alloc (by simp) (Jc #[Js s0,Js s1,Js s2] 48);have C0:=(JZ w x0 x1 x2).keep ((M1 _ _).alloc (M3 _) (Jc #[Js s0,Js s1,Js s2] 48));have C1:=Jh.new (w.alloc (Jc #[Ji Jl x0.1,Jp x0.2.1,Ji Jl x0.2.2.1,Jp x0.2.2.2,Ji Jl x1.1,Jp x1.2.1,Ji Jl x1.2.2.1,Jp x1.2.2.2,Ji Jl x2.1,Jp x2.2.1,Ji Jl x2.2.2.1,Jp x2.2.2.2] 32)) #[Js s0,Js s1,Js s2] 48;simp only[M7]at C1;have HP:=fun w' (hb:Below w.heap.size w w')=>Y6 x0 x1 x2 s0 s1 s2 w' ((h.x.keep hb).txt f.x hk h0) ((h.y.keep hb).txt f.y hk h1) ((h.z.keep hb).txt f.z hk h2) (hg.below hb);obtain⟨W,hW⟩:∃u,(w.alloc (Jc #[Ji Jl x0.1,Jp x0.2.1,Ji Jl x0.2.2.1,Jp x0.2.2.2,Ji Jl x1.1,Jp x1.2.1,Ji Jl x1.2.2.1,Jp x1.2.2.2,Ji Jl x2.1,Jp x2.2.1,Ji Jl x2.2.2.1,Jp x2.2.2.2] 32)).alloc (Jc #[Js s0,Js s1,Js s2] 48)=u:=⟨_,rfl⟩;rw[hW]at kb C0 C1;have Kb:=Lh kb;have HP:=Lh HP;have V0:=Lh C0;have V1:=Lh C1;have hq:=fun W:World=>Xn s0 s1 s2 W;have HS:=Lh (fun w' (hb:Below W.heap.size W w')=>(⟨(V0.out.keep hb).at_ 0,(V0.out.keep hb).at_ 1,(V0.out.keep hb).at_ 2,(V0.out.keep hb).at_ 3,(V0.out.keep hb).at_ 4,(V0.out.keep hb).at_ 5,(V0.out.keep hb).at_ 6,(V0.out.keep hb).at_ 7,(V0.out.keep hb).at_ 8,(V0.out.keep hb).at_ 9,(V0.out.keep hb).at_ 10,(V0.out.keep hb).at_ 11,(V1.out.keep hb).at_ 0,(V1.out.keep hb).at_ 1,(V1.out.keep hb).at_ 2⟩:w'.cell? ⟨w.heap.size,0,Jn⟩=Jo (Ji Jl x0.1)/\w'.cell? ⟨w.heap.size,1,Jn⟩=Jo (Jp x0.2.1)/\w'.cell? ⟨w.heap.size,2,Jn⟩=Jo (Ji Jl x0.2.2.1)/\w'.cell? ⟨w.heap.size,3,Jn⟩=Jo (Jp x0.2.2.2)/\w'.cell? ⟨w.heap.size,4,Jn⟩=Jo (Ji Jl x1.1)/\w'.cell? ⟨w.heap.size,5,Jn⟩=Jo (Jp x1.2.1)/\w'.cell? ⟨w.heap.size,6,Jn⟩=Jo (Ji Jl x1.2.2.1)/\w'.cell? ⟨w.heap.size,7,Jn⟩=Jo (Jp x1.2.2.2)/\w'.cell? ⟨w.heap.size,8,Jn⟩=Jo (Ji Jl x2.1)/\w'.cell? ⟨w.heap.size,9,Jn⟩=Jo (Jp x2.2.1)/\w'.cell? ⟨w.heap.size,10,Jn⟩=Jo (Ji Jl x2.2.2.1)/\w'.cell? ⟨w.heap.size,11,Jn⟩=Jo (Jp x2.2.2.2)/\w'.cell? ⟨w.heap.size+1,0,Jn⟩=Jo (Js s0)/\w'.cell? ⟨w.heap.size+1,1,Jn⟩=Jo (Js s1)/\w'.cell? ⟨w.heap.size+1,2,Jn⟩=Jo (Js s2)))
 clear h f hk h0 h1 h2 hg kb C0 C1;unfold Jv at *
 go_enter Tryz.func17,Tryz.ntmps17;go_upto_region 1 with fail
 try simp only[hW]
 clear hW;refine Till.begin 5 (fun w'=>w'.cell? ⟨w.heap.size,0,Jn⟩=Jo (Ji Jl x0.1)/\w'.cell? ⟨w.heap.size,1,Jn⟩=Jo (Jp x0.2.1)/\w'.cell? ⟨w.heap.size,2,Jn⟩=Jo (Ji Jl x0.2.2.1)/\w'.cell? ⟨w.heap.size,3,Jn⟩=Jo (Jp x0.2.2.2)/\w'.cell? ⟨w.heap.size,4,Jn⟩=Jo (Ji Jl x1.1)/\w'.cell? ⟨w.heap.size,5,Jn⟩=Jo (Jp x1.2.1)/\w'.cell? ⟨w.heap.size,6,Jn⟩=Jo (Ji Jl x1.2.2.1)/\w'.cell? ⟨w.heap.size,7,Jn⟩=Jo (Jp x1.2.2.2)/\w'.cell? ⟨w.heap.size,8,Jn⟩=Jo (Ji Jl x2.1)/\w'.cell? ⟨w.heap.size,9,Jn⟩=Jo (Jp x2.2.1)/\w'.cell? ⟨w.heap.size,10,Jn⟩=Jo (Ji Jl x2.2.2.1)/\w'.cell? ⟨w.heap.size,11,Jn⟩=Jo (Jp x2.2.2.2)/\w'.cell? ⟨w.heap.size+1,0,Jn⟩=Jo (Js s0)/\w'.cell? ⟨w.heap.size+1,1,Jn⟩=Jo (Js s1)/\w'.cell? ⟨w.heap.size+1,2,Jn⟩=Jo (Js s2)) (by kernel_rfl) (HS.out _ (M1 _ _).drew) (fun hH=>?_);clear hH;have HB:=Lh (M1 W.heap.size W).drew;generalize W.drew=v0 at HB ⊢;try simp only[Pls]
 refine Till.tk 0 1 5 (.agg #[Ji Jl x0.1,Jp x0.2.1,Ji Jl x0.2.2.1,Jp x0.2.2.2,Ji Jl x1.1,Jp x1.2.1,Ji Jl x1.2.2.1,Jp x1.2.2.2,Ji Jl x2.1,Jp x2.2.1,Ji Jl x2.2.2.1,Jp x2.2.2.2]) (HS.out _ HB.out) ?_;try simp only[M0,Pls]
 refine Till.tk 2 3 7 (.agg #[Js s0,Js s1,Js s2]) (HS.out _ HB.out) ?_;try simp only[M0,Pls]
 refine Till.one (i:=1) (by kernel_rfl) rfl (fun K hK=>?_);go_simp;refine(HP.out _ (Jd Kb.out HB.out)).mono ?_;rintro e v1⟨rfl,g⟩;replace HB:=Lh (Jd HB.out g);clear g;go_wp2_with fail
 refine hK.out _ _ (fun _=>HS.out _ HB.out) ?_;clear hK K;try simp only[Pls]
 refine Till.one (i:=3) (by kernel_rfl) rfl (fun K hK=>?_);go_simp;refine(Vn s0 s1 s2 _).mono ?_;rintro e v2⟨rfl,g⟩;replace HB:=Lh (Jd HB.out g);clear g;go_wp2_with fail
 refine hK.out _ _ (fun _=>HS.out _ HB.out) ?_;clear hK K;try simp only[Pls]
 refine Till.one (i:=4) (by kernel_rfl) rfl (fun K hK=>?_);go_simp;refine hK.out _ _ (fun _=>HS.out _ HB.out) ?_;clear hK K;try simp only[Pls]
 refine Till.one (i:=5) (by kernel_rfl) rfl (fun K hK=>?_);go_simp;refine hK.out _ _ (fun h=>absurd h (by simp)) ?_;clear hK K;try simp only[Pls]
 refine Till.done (by kernel_rfl) ?_ _;have Kf:=Lh (Jd Kb.out HB.out);go_wp2;exact bodyPost_ret (v:= .bool true) (by simp[results,Tryz.results17,go_sem]) rfl ⟨rfl,Kf.out⟩
