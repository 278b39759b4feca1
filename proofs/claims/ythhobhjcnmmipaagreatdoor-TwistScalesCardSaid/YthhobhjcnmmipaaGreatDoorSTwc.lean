/- Twists: small numbers. -/
import Derived.Test.YthhobhjcnmmipaaGreatDoorSTwb
namespace Go.Proofs.YthhobhjcnmmipaaGreatDoor
open Go.Value renaming pointer→Jp,int→Ji,agg→Ja,int→M1
open Go.IntKind renaming i64→Jl,wrap→M3
open Go.Obj renaming cells→Jc
open _root_.Option renaming none→Jn,some→Jo
open Go renaming World→JW
open Go.Act renaming put→M0
open _root_.List renaming getElem?_eq_getElem→M2,length_set→M6,getElem?_append_right→M8,append_assoc→Mw,getElem?_append_left→Mx
open Go.RowKit.Below renaming refl→M4
open _root_.And renaming intro→M5
open _root_.Nat renaming le_refl→M7,not_lt_zero→MA
open _root_.Int renaming tmod_eq_emod_of_nonneg→M9
open Go.World renaming size_alloc→My
open _root_.Rat renaming num_intCast→Mz
open Go.RowKit
structure I8 (n : Int) : Prop where
 lo : -128 <= n
 hi : n <= 127
theorem I8.i64{n : Int}(h : I8 n) : I64 n :=⟨by have :=h.lo;omega, by have :=h.hi;omega⟩
theorem Fq{z : Int}{k : Nat}(h : z.natAbs < ten k)(hk : 0 < k) : Few ((z : Int) : Rat) k :=⟨by rw[Mz];exact h, by rw[Rat.den_intCast];exact Nat.lt_of_lt_of_le (by decide : 1 < ten 1) (QB hk)⟩
theorem I8.few{n : Int}(h : I8 n) : Few ((n : Int) : Rat) 3 :=Fq (by have :=h.lo;have :=h.hi;show n.natAbs < 1000;omega) (by decide)
structure S6 (n0 n1 n2 n3 n4 n5 d r : Int) : Prop where
 h0 : I8 n0
 h1 : I8 n1
 h2 : I8 n2
 h3 : I8 n3
 h4 : I8 n4
 h5 : I8 n5
 d0 : 0 <= d
 d1 : d <= 255
 r_ : d%3 =r
def tq(n r : Int) : Rat :=((n : Int) : Rat)/(((1 + r : Int)) : Rat)
theorem Jh.part{w : JW}{p o : Nat}{l vs : List Value}(h : Jh w p l)(hl : o + vs.length <= l.length) : Jh (w.setCells p o vs) p (l.take o ++ vs ++ l.drop (o + vs.length)) :=by
 refine⟨fun i => ?_, fun i => by rw[World.frozen?_setCells];exact h.fz i, by rw[(Ff p vs o w).2.2.2.1];exact h.lt⟩;have ht : (l.take o).length =o :=by rw[List.length_take];omega
 by_cases h1 : i < o
 ·rw[World.cell?_setCells_out p vs o w ⟨p, i, Jn⟩ (fun _ _ => .inl h1), h.at_ i, Mw, Mx (by omega), List.getElem?_take, if_pos h1]
 ·by_cases h2 : i < o + vs.length
  ·have :=World.rangeAt_setCells_same w p o vs (fun j hj => ⟨by rw[h.at_ (o + j), M2 (by omega)];rfl, h.fz _⟩) (i-o) vs[i-o] (M2 (by omega));rw[show o + (i-o) =i by omega]at this;rw[this, Mw, M8 (by omega), ht, Mx (by omega), M2 (by omega)]
  ·rw[World.cell?_setCells_out p vs o w ⟨p, i, Jn⟩ (fun _ _ => .inr (by show o + vs.length <= i;omega)), h.at_ i, Mw, M8 (by omega), ht, M8 (by omega), List.getElem?_drop]
   congr 1
   omega
def Row3(w : JW)(p : Nat)(qs : List Rat)(k : Nat) : Prop := ∃rs : List R4, rs.length =3 /\ Jh w p (flat rs) /\ ∀(i : Nat) (r : R4) (q : Rat), i < k -> rs[i]? =Jo r -> qs[i]? =Jo q -> VAt w r q
theorem Row3.up{w w' : JW}{p : Nat}{qs : List Rat}{k : Nat}{q0 : Rat}{rs : List R4}{r : R4}(hl : rs.length =3)(h : ∀(i : Nat) (r : R4) (q : Rat), i < k -> rs[i]? =Jo r -> qs[i]? =Jo q -> VAt w r q)(hk : k < 3)(hq : qs[k]? =Jo q0)(hW : Wr p w w')(hC : Jh w' p (flat (rs.set k r)))(hv : VAt w' r q0) : Row3 w' p qs (k + 1) :=by
 refine⟨rs.set k r, by rw[M6];exact hl, hC, fun i r' q hi h1 h2 => ?_⟩;by_cases e : i =k
 ·subst e;rw[List.getElem?_set_self (by omega)]at h1
  injection h1 with h1
  rw[hq]at h2
  injection h2 with h2
  rw[←h1, ←h2];exact hv
 ·rw[List.getElem?_set_ne (fun h => e h.symm)]at h1;exact(h i r' q (by omega) h1 h2).wr hW
theorem Row3.done{w : JW}{p : Nat}{q0 q1 q2 : Rat}{k : Nat}(h : Row3 w p [q0, q1, q2] 3)(f : Few3 k q0 q1 q2) : Fi w p [] k [q0, q1, q2] :=by
 obtain⟨rs, hl, hc, h⟩ :=h;obtain⟨x, y, z, rfl⟩ :=VJ hl;refine⟨[x, y, z], hc, ⟨h 0 x q0 (by decide) rfl rfl, h 1 y q1 (by decide) rfl rfl, h 2 z q2 (by decide) rfl rfl, trivial⟩, fun q hq => ?_⟩;simp only[List.mem_cons, List.not_mem_nil, or_false]at hq;rcases hq with rfl|rfl|rfl
 ·exact f.x
 ·exact f.y
 ·exact f.z
theorem cf27(args : Array Value)(w : JW) : (callFunc 27 args).run Tryz.prog w = .ok (.enter 27 args) w :=by go_simp
theorem cf21(args : Array Value)(w : JW) : (callFunc 21 args).run Tryz.prog w = .ok (.enter 21 args) w :=by go_simp
theorem cf43(args : Array Value)(w : JW) : (callFunc 43 args).run Tryz.prog w = .ok (.enter 43 args) w :=by go_simp
theorem cf22(args : Array Value)(w : JW) : (callFunc 22 args).run Tryz.prog w = .ok (.enter 22 args) w :=by go_simp
set_option maxRecDepth 100000 in
set_option maxHeartbeats 16000000 in
theorem FV{n0 n1 n2 n3 n4 n5 d r : Int}{w : JW}(h : S6 n0 n1 n2 n3 n4 n5 d r)(hg : Good w) : Calls Tryz.prog 27 #[Ja #[Ji .i8 n0, Ji .i8 n1, Ji .i8 n2, Ji .i8 n3, Ji .i8 n4, Ji .i8 n5, Ji .u8 d], Ji Jl 0] w (Ret w (Fct.num [] 4 [tq n0 r, tq n1 r, tq n2 r])) :=by
 have r0 : 0 <= r :=by have :=h.r_;have :=h.d0;omega
 have r1 : r <= 2 :=by have :=h.r_;omega
 have hwr : M3 Jl r =r :=EM (by omega) (by omega);have hw1r : M3 Jl (1 + r) =1 + r :=EM (by omega) (by omega);have hwu : M3 .u8 r =r :=by unfold M3;simp[go_sem];omega
 have htm : Int.tmod d 3 =r :=by rw[M9 h.d0];exact h.r_
 have hem : d%3 =r :=h.r_;have hd : ((1 + r : Int) : Rat).num ≠ 0 :=by rw[Mz];omega
 have fd : Few ((1 + r : Int) : Rat) 1 :=Fq (by show(1 + r).natAbs < 10;omega) (by decide);have i1r : I64 (1 + r) :=⟨by omega, by omega⟩;have hw0 : M3 Jl n0 =n0 :=EM h.h0.i64.1 h.h0.i64.2;have f0 :=h.h0.few;have i0 :=h.h0.i64;have hw1 : M3 Jl n1 =n1 :=EM h.h1.i64.1 h.h1.i64.2;have f1 :=h.h1.few;have i1 :=h.h1.i64;have hw2 : M3 Jl n2 =n2 :=EM h.h2.i64.1 h.h2.i64.2;have f2 :=h.h2.few;have i2 :=h.h2.i64;have ff : Few3 4 (tq n0 r) (tq n1 r) (tq n2 r) :=⟨f0.div fd hd, f1.div fd hd, f2.div fd hd⟩;have Fd :=Lh (M5 hd fd);have If :=Lh (M5 i1r (M5 f0 (M5 i0 (M5 f1 (M5 i1 (M5 f2 i2))))));have FF :=Lh ff;have Hg :=Lh hg;clear r0 r1 h hd fd i1r ff hg f0 i0 f1 i1 f2 i2;have k0 :=(M4 w.heap.size w).alloc (M7 _) (Jc #[Ji .i8 n0, Ji .i8 n1, Ji .i8 n2, Ji .i8 n3, Ji .i8 n4, Ji .i8 n5, Ji .u8 d] 53);have k1 :=k0.alloc (by simp) (Jc #[M1 Jl 0, Jp Jn, Ji Jl 0, Jp Jn, Ji Jl 0, Jp Jn, Ji Jl 0, Jp Jn, Ji Jl 0, Jp Jn, Ji Jl 0, Jp Jn] 35);have k2 :=k1.alloc (by simp;omega) (Jc #[M1 Jl 0, Jp Jn, Ji Jl 0, Jp Jn, Ji Jl 0, Jp Jn, Ji Jl 0, Jp Jn, Ji Jl 0, Jp Jn, Ji Jl 0, Jp Jn] 35);have V0 :=Jh.new w #[Ji .i8 n0, Ji .i8 n1, Ji .i8 n2, Ji .i8 n3, Ji .i8 n4, Ji .i8 n5, Ji .u8 d] 53;have V1 :=Jh.new (w.alloc (Jc #[Ji .i8 n0, Ji .i8 n1, Ji .i8 n2, Ji .i8 n3, Ji .i8 n4, Ji .i8 n5, Ji .u8 d] 53)) #[M1 Jl 0, Jp Jn, Ji Jl 0, Jp Jn, Ji Jl 0, Jp Jn, Ji Jl 0, Jp Jn, Ji Jl 0, Jp Jn, Ji Jl 0, Jp Jn] 35;have V2 :=Jh.new ((w.alloc (Jc #[Ji .i8 n0, Ji .i8 n1, Ji .i8 n2, Ji .i8 n3, Ji .i8 n4, Ji .i8 n5, Ji .u8 d] 53)).alloc (Jc #[M1 Jl 0, Jp Jn, Ji Jl 0, Jp Jn, Ji Jl 0, Jp Jn, Ji Jl 0, Jp Jn, Ji Jl 0, Jp Jn, Ji Jl 0, Jp Jn] 35)) #[M1 Jl 0, Jp Jn, Ji Jl 0, Jp Jn, Ji Jl 0, Jp Jn, Ji Jl 0, Jp Jn, Ji Jl 0, Jp Jn, Ji Jl 0, Jp Jn] 35
 have j1 :=(M4 (w.alloc (Jc #[Ji .i8 n0, Ji .i8 n1, Ji .i8 n2, Ji .i8 n3, Ji .i8 n4, Ji .i8 n5, Ji .u8 d] 53)).heap.size (w.alloc (Jc #[Ji .i8 n0, Ji .i8 n1, Ji .i8 n2, Ji .i8 n3, Ji .i8 n4, Ji .i8 n5, Ji .u8 d] 53))).alloc (M7 _) (Jc #[M1 Jl 0, Jp Jn, Ji Jl 0, Jp Jn, Ji Jl 0, Jp Jn, Ji Jl 0, Jp Jn, Ji Jl 0, Jp Jn, Ji Jl 0, Jp Jn] 35);have j2 :=(M4 ((w.alloc (Jc #[Ji .i8 n0, Ji .i8 n1, Ji .i8 n2, Ji .i8 n3, Ji .i8 n4, Ji .i8 n5, Ji .u8 d] 53)).alloc (Jc #[M1 Jl 0, Jp Jn, Ji Jl 0, Jp Jn, Ji Jl 0, Jp Jn, Ji Jl 0, Jp Jn, Ji Jl 0, Jp Jn, Ji Jl 0, Jp Jn] 35)).heap.size ((w.alloc (Jc #[Ji .i8 n0, Ji .i8 n1, Ji .i8 n2, Ji .i8 n3, Ji .i8 n4, Ji .i8 n5, Ji .u8 d] 53)).alloc (Jc #[M1 Jl 0, Jp Jn, Ji Jl 0, Jp Jn, Ji Jl 0, Jp Jn, Ji Jl 0, Jp Jn, Ji Jl 0, Jp Jn, Ji Jl 0, Jp Jn] 35))).alloc (M7 _) (Jc #[M1 Jl 0, Jp Jn, Ji Jl 0, Jp Jn, Ji Jl 0, Jp Jn, Ji Jl 0, Jp Jn, Ji Jl 0, Jp Jn, Ji Jl 0, Jp Jn] 35);replace V0 :=(V0.keep j1).keep j2;replace V1 :=V1.keep j2;simp only[My]at V0 V1 V2;obtain⟨W, hW⟩ : ∃W, ((w.alloc (Jc #[Ji .i8 n0, Ji .i8 n1, Ji .i8 n2, Ji .i8 n3, Ji .i8 n4, Ji .i8 n5, Ji .u8 d] 53)).alloc (Jc #[M1 Jl 0, Jp Jn, Ji Jl 0, Jp Jn, Ji Jl 0, Jp Jn, Ji Jl 0, Jp Jn, Ji Jl 0, Jp Jn, Ji Jl 0, Jp Jn] 35)).alloc (Jc #[M1 Jl 0, Jp Jn, Ji Jl 0, Jp Jn, Ji Jl 0, Jp Jn, Ji Jl 0, Jp Jn, Ji Jl 0, Jp Jn, Ji Jl 0, Jp Jn] 35) =W :=⟨_, rfl⟩;rw[hW]at k2 V0 V1 V2;have Hst :=Lh (show Row3 W (w.heap.size + 1 + 1) [tq n0 r, tq n1 r, tq n2 r] 0 /\ Jh W w.heap.size [Ji .i8 n0, Ji .i8 n1, Ji .i8 n2, Ji .i8 n3, Ji .i8 n4, Ji .i8 n5, Ji .u8 d] /\ Jh W (w.heap.size + 1) (flat [Jm, Jm, Jm]) /\ Below w.heap.size w W from⟨⟨[Jm, Jm, Jm], rfl, V2, fun _ _ _ h => absurd h (MA _)⟩, V0, V1, k2⟩)
 clear k0 k1 k2 j1 j2 V0 V1 V2;go_enter Tryz.func27, Tryz.ntmps27;go_wp2_with fail
 try simp only[hW]
 clear hW;go_loopw [6] (fun v wr => ∃(k : Nat) (z : Int), k <= 3 /\ z =(k : Int) /\ v =Ji Jl z /\ (Row3 wr (w.heap.size + 1 + 1) [tq n0 r, tq n1 r, tq n2 r] k /\ Jh wr w.heap.size [Ji .i8 n0, Ji .i8 n1, Ji .i8 n2, Ji .i8 n3, Ji .i8 n4, Ji .i8 n5, Ji .u8 d] /\ Jh wr (w.heap.size + 1) (flat [Jm, Jm, Jm]) /\ Below w.heap.size w wr)) (fun v _ => 3-(intOf v).toNat)
 case atStart => exact⟨0, 0, by decide, rfl, rfl, Hst.out⟩
 case round =>
  obtain⟨k, z, hk, hzk, rfl, ⟨rs, hl, hc, hr⟩, hb0, hz, hb⟩ :=hrel;have Hc :=Lh hc;have Hr :=Lh hr;have Hz :=Lh hz;have Hb :=Lh hb;have V0 :=Lh (fun w' (hb : Below wr.heap.size wr w') => hb0.keep hb);have G :=Lh (fun w' (hb' : Below wr.heap.size wr w') => Hg.out.below (hb.trans (hb'.mono hb.size)));have V0c :=Lh hb0;have Hl :=Lh hl;clear hc hr hz hb hb0 hl;obtain rfl|rfl|rfl|rfl : k =0 \/ k =1 \/ k =2 \/ k =3 :=by omega
  ·obtain rfl : z =0 :=hzk;go_upto_region 5 with fail
   refine Till.begin 20 (fun v => Below wr.heap.size wr v) (by kernel_rfl) (M4 _ _).drew (fun hS => ?_);generalize wr.drew =v0 at hS ⊢;refine EY 0 12 (Ji Jl 0) hS (fun _ _ _ h => h) rfl rfl rfl (fun v h => rfl) (by kernel_rfl) ?_;try simp only[M0, Pls]
   refine EY 1 13 (Ji Jl 0) hS (fun _ _ _ h => h) rfl rfl rfl (fun v h => rfl) (by kernel_rfl) ?_;try simp only[M0, Pls]
   refine EY 2 14 (Ji Jl 0) hS (fun _ _ _ h => h) rfl rfl rfl (fun v h => rfl) (by kernel_rfl) ?_;try simp only[M0, Pls]
   refine EY 3 15 (Ji Jl 0) hS (fun _ _ _ h => h) rfl rfl rfl (fun v h => by go_simp <;> rfl) (by kernel_rfl) ?_;try simp only[M0, Pls]
   refine EY 4 16 (Jp (Jo ⟨w.heap.size, 0, Jn⟩)) hS (fun _ _ _ h => h) rfl rfl rfl (fun v h => by go_simp <;> rfl) (by kernel_rfl) ?_;try simp only[M0, Pls]
   refine EY 5 17 (Jp (Jo ⟨w.heap.size, 0, Jn⟩)) hS (fun _ _ _ h => h) rfl rfl rfl (fun v h => by go_simp <;> rfl) (by kernel_rfl) ?_;try simp only[M0, Pls]
   refine EY 6 18 (Ji .i8 n0) hS (fun _ _ _ h => h) rfl rfl rfl (fun v h => by have c : v.cell? ⟨w.heap.size, 0, Jn⟩ =Jo (Ji .i8 n0) :=(V0.out v h).at_ 0;go_simp) (by kernel_rfl) ?_;try simp only[M0, Pls]
   refine EY 7 19 (Ji Jl n0) hS (fun _ _ _ h => h) rfl rfl rfl (fun v h => by go_simp <;> rfl) (by kernel_rfl) ?_;try simp only[M0, Pls]
   refine EY 9 21 (Jp (Jo ⟨w.heap.size, 6, Jn⟩)) hS (fun _ _ _ h => h) rfl rfl rfl (fun v h => by go_simp <;> rfl) (by kernel_rfl) ?_;try simp only[M0, Pls]
   refine EY 10 22 (Ji .u8 d) hS (fun _ _ _ h => h) rfl rfl rfl (fun v h => by have c : v.cell? ⟨w.heap.size, 6, Jn⟩ =Jo (Ji .u8 d) :=(V0.out v h).at_ 6;go_simp) (by kernel_rfl) ?_;try simp only[M0, Pls]
   refine EY 11 23 (Ji .u8 r) hS (fun _ _ _ h => h) rfl rfl rfl (fun v h => by go_simp <;> rfl) (by kernel_rfl) ?_;try simp only[M0, Pls]
   refine EY 12 24 (Ji Jl r) hS (fun _ _ _ h => h) rfl rfl rfl (fun v h => by go_simp <;> rfl) (by kernel_rfl) ?_;try simp only[M0, Pls]
   refine EY 13 25 (Ji Jl (1 + r)) hS (fun _ _ _ h => h) rfl rfl rfl (fun v h => by go_simp <;> rfl) (by kernel_rfl) ?_;try simp only[M0, Pls]
   refine Fj 8 cf51 (by kernel_rfl) rfl rfl rfl rfl rfl rfl (Fv (n :=3) If.out.2.2.1 If.out.2.1) (fun v h => Jd hS h) (fun x1 v1 h1 F1 => ?_);replace hS :=Jd hS h1;try simp only[M0, Pls]
   refine Fj 14 cf51 (by kernel_rfl) rfl rfl rfl rfl rfl rfl (Fv (n :=1) If.out.1 Fd.out.2) (fun v h => Jd hS h) (fun x2 v2 h2 F2 => ?_);replace hS :=Jd hS h2;replace F1 :=Fct.keep _ F1 h2;try simp only[M0, Pls]
   refine Fj 15 cf50 (by kernel_rfl) rfl rfl rfl rfl rfl rfl (FI (n :=4) F1 F2 Fd.out.1 (by kernel_rfl) (G.out _ hS)) (fun v h => Jd hS h) (fun x3 v3 h3 F3 => ?_);replace hS :=Jd hS h3;try simp only[M0, Pls]
   obtain⟨rs5, rfl, hr5, f5⟩ :=F3;obtain⟨r5, rs5, rfl, hv5, hr5⟩ :=hr5.cons;obtain rfl :=hr5.nil_;clear F1 F2 h1 h2 h3;refine FB 16 hS (by kernel_rfl) rfl rfl rfl rfl ?_;try simp only[M0, Pls]
   refine EY 17 28 (Ja (flat [r5]).toArray) hS (fun _ _ _ h => h) rfl rfl rfl (fun v h => rfl) (by kernel_rfl) ?_;try simp only[M0, Pls]
   refine EY 19 30 (Jp (Jo ⟨w.heap.size + 1 + 1, 0, Jn⟩)) hS (fun _ _ _ h => h) rfl rfl rfl (fun v h => by go_simp <;> rfl) (by kernel_rfl) ?_;try simp only[M0, Pls]
   have Hc2 :=Hc.out.keep hS;have hlen : (flat rs).length =12 :=by rw[Fc, Hl.out]
   have hrun :=run_storeAt_mid (P :=Tryz.prog) v3 (w.heap.size + 1 + 1) 0 31 (flat [r5]).toArray (fun j hj => ⟨by rw[Hc2.at_, M2 (by rw[hlen];have : j < 4 :=hj;omega)];rfl, Hc2.fz _⟩) (by kernel_rfl) (all_oneCell_toArray fun v hv => Fo (List.all_eq_true.1 (Fa [r5]) v hv));have hC :=Hc2.part (o :=0) (vs :=flat [r5]) (by rw[hlen];show 0 + 4 <= 12;decide);have e2 : (flat rs).take 0 ++ flat [r5] ++ (flat rs).drop (0 + (flat [r5]).length) =flat (rs.set 0 r5) :=by
    obtain⟨x, y, z, rfl⟩ :=VJ Hl.out;rfl
   rw[e2]at hC;obtain⟨a1, a2, a3, a4, a5⟩ :=Ff (w.heap.size + 1 + 1) (flat [r5]) 0 v3;have hW : Wr (w.heap.size + 1 + 1) v3 (v3.setCells (w.heap.size + 1 + 1) 0 (flat [r5])) :=⟨a1, a2, a3, a4, a5, flat rs, flat (rs.set 0 r5), Hc2, hC, by rw[Fc, Fc, M6], Fa _, Fa _⟩;have HR :=Lh (Row3.up (k :=0) Hl.out (fun i r q h1 h2 h3 => (Hr.out i r q h1 h2 h3).keep hS) (by decide) rfl hW hC (hv5.wr hW));have H0 :=Lh ((V0.out _ hS).wr hW (show w.heap.size ≠ w.heap.size + 1 + 1 by omega));have HZ :=Lh ((Hz.out.keep hS).wr hW (show w.heap.size + 1 ≠ w.heap.size + 1 + 1 by omega));have HB :=Lh (hW.below (show w.heap.size <= w.heap.size + 1 + 1 by omega) (Hb.out.trans (hS.mono Hb.out.size)));have hrun :=Lh hrun;clear a1 a2 a3 a4 a5 e2 hlen hC Hc2;obtain⟨v4, hv4⟩ : ∃u, v3.setCells (w.heap.size + 1 + 1) 0 (flat [r5]) =u :=⟨_, rfl⟩;have e4 : v3.setCells (w.heap.size + 1 + 1) 0 (flat [r5]).toArray.toList =v4 :=hv4;rw[e4]at hrun;rw[hv4]at HR H0 HZ HB;clear hW hv4 e4;have hst : ∀o : Oper, o.op = .store 31 (.tmp 30) (.tmp 28) -> ∀a : Act, a.eval (.tmp 30) =Jp (Jo ⟨w.heap.size + 1 + 1, 0, Jn⟩) -> a.eval (.tmp 28) =Ja (flat [r5]).toArray -> (execOp a.eval o).run Tryz.prog v3 = .ok .skip v4 :=fun o ho a e1 e2 => by
    unfold execOp;rw[ho];dsimp only;rw[e1, e2, Sem.run_bind, hrun.out];rfl
   refine FK 18 20 (d :=29) (u :=Ji Jl 0) hS (by kernel_rfl) rfl rfl rfl rfl rfl rfl rfl rfl (hst _ rfl _ rfl rfl) (hst _ rfl _ rfl rfl) (by kernel_rfl) ?_;try simp only[M0, Pls]
   clear hS hst hrun hv5 f5 hr5 V0 G Hc Hr Hz Hb V0c Fd If;go_wp2_with fail
   go_roundw;case rel => exact⟨1, 1, by decide, rfl, by go_num, HR.out, H0.out, HZ.out, HB.out⟩
   case measure => simp[intOf]
  ·obtain rfl : z =1 :=hzk;go_upto_region 5 with fail
   refine Till.begin 20 (fun v => Below wr.heap.size wr v) (by kernel_rfl) (M4 _ _).drew (fun hS => ?_);generalize wr.drew =v0 at hS ⊢;refine EY 0 12 (Ji Jl 1) hS (fun _ _ _ h => h) rfl rfl rfl (fun v h => rfl) (by kernel_rfl) ?_;try simp only[M0, Pls]
   refine EY 1 13 (Ji Jl 0) hS (fun _ _ _ h => h) rfl rfl rfl (fun v h => rfl) (by kernel_rfl) ?_;try simp only[M0, Pls]
   refine EY 2 14 (Ji Jl 1) hS (fun _ _ _ h => h) rfl rfl rfl (fun v h => rfl) (by kernel_rfl) ?_;try simp only[M0, Pls]
   refine EY 3 15 (Ji Jl 1) hS (fun _ _ _ h => h) rfl rfl rfl (fun v h => by go_simp <;> rfl) (by kernel_rfl) ?_;try simp only[M0, Pls]
   refine EY 4 16 (Jp (Jo ⟨w.heap.size, 0, Jn⟩)) hS (fun _ _ _ h => h) rfl rfl rfl (fun v h => by go_simp <;> rfl) (by kernel_rfl) ?_;try simp only[M0, Pls]
   refine EY 5 17 (Jp (Jo ⟨w.heap.size, 1, Jn⟩)) hS (fun _ _ _ h => h) rfl rfl rfl (fun v h => by go_simp <;> rfl) (by kernel_rfl) ?_;try simp only[M0, Pls]
   refine EY 6 18 (Ji .i8 n1) hS (fun _ _ _ h => h) rfl rfl rfl (fun v h => by have c : v.cell? ⟨w.heap.size, 1, Jn⟩ =Jo (Ji .i8 n1) :=(V0.out v h).at_ 1;go_simp) (by kernel_rfl) ?_;try simp only[M0, Pls]
   refine EY 7 19 (Ji Jl n1) hS (fun _ _ _ h => h) rfl rfl rfl (fun v h => by go_simp <;> rfl) (by kernel_rfl) ?_;try simp only[M0, Pls]
   refine EY 9 21 (Jp (Jo ⟨w.heap.size, 6, Jn⟩)) hS (fun _ _ _ h => h) rfl rfl rfl (fun v h => by go_simp <;> rfl) (by kernel_rfl) ?_;try simp only[M0, Pls]
   refine EY 10 22 (Ji .u8 d) hS (fun _ _ _ h => h) rfl rfl rfl (fun v h => by have c : v.cell? ⟨w.heap.size, 6, Jn⟩ =Jo (Ji .u8 d) :=(V0.out v h).at_ 6;go_simp) (by kernel_rfl) ?_;try simp only[M0, Pls]
   refine EY 11 23 (Ji .u8 r) hS (fun _ _ _ h => h) rfl rfl rfl (fun v h => by go_simp <;> rfl) (by kernel_rfl) ?_;try simp only[M0, Pls]
   refine EY 12 24 (Ji Jl r) hS (fun _ _ _ h => h) rfl rfl rfl (fun v h => by go_simp <;> rfl) (by kernel_rfl) ?_;try simp only[M0, Pls]
   refine EY 13 25 (Ji Jl (1 + r)) hS (fun _ _ _ h => h) rfl rfl rfl (fun v h => by go_simp <;> rfl) (by kernel_rfl) ?_;try simp only[M0, Pls]
   refine Fj 8 cf51 (by kernel_rfl) rfl rfl rfl rfl rfl rfl (Fv (n :=3) If.out.2.2.2.2.1 If.out.2.2.2.1) (fun v h => Jd hS h) (fun x1 v1 h1 F1 => ?_);replace hS :=Jd hS h1;try simp only[M0, Pls]
   refine Fj 14 cf51 (by kernel_rfl) rfl rfl rfl rfl rfl rfl (Fv (n :=1) If.out.1 Fd.out.2) (fun v h => Jd hS h) (fun x2 v2 h2 F2 => ?_);replace hS :=Jd hS h2;replace F1 :=Fct.keep _ F1 h2;try simp only[M0, Pls]
   refine Fj 15 cf50 (by kernel_rfl) rfl rfl rfl rfl rfl rfl (FI (n :=4) F1 F2 Fd.out.1 (by kernel_rfl) (G.out _ hS)) (fun v h => Jd hS h) (fun x3 v3 h3 F3 => ?_);replace hS :=Jd hS h3;try simp only[M0, Pls]
   obtain⟨rs5, rfl, hr5, f5⟩ :=F3;obtain⟨r5, rs5, rfl, hv5, hr5⟩ :=hr5.cons;obtain rfl :=hr5.nil_;clear F1 F2 h1 h2 h3;refine FB 16 hS (by kernel_rfl) rfl rfl rfl rfl ?_;try simp only[M0, Pls]
   refine EY 17 28 (Ja (flat [r5]).toArray) hS (fun _ _ _ h => h) rfl rfl rfl (fun v h => rfl) (by kernel_rfl) ?_;try simp only[M0, Pls]
   refine EY 19 30 (Jp (Jo ⟨w.heap.size + 1 + 1, 4, Jn⟩)) hS (fun _ _ _ h => h) rfl rfl rfl (fun v h => by go_simp <;> rfl) (by kernel_rfl) ?_;try simp only[M0, Pls]
   have Hc2 :=Hc.out.keep hS;have hlen : (flat rs).length =12 :=by rw[Fc, Hl.out]
   have hrun :=run_storeAt_mid (P :=Tryz.prog) v3 (w.heap.size + 1 + 1) 4 31 (flat [r5]).toArray (fun j hj => ⟨by rw[Hc2.at_, M2 (by rw[hlen];have : j < 4 :=hj;omega)];rfl, Hc2.fz _⟩) (by kernel_rfl) (all_oneCell_toArray fun v hv => Fo (List.all_eq_true.1 (Fa [r5]) v hv));have hC :=Hc2.part (o :=4) (vs :=flat [r5]) (by rw[hlen];show 4 + 4 <= 12;decide);have e2 : (flat rs).take 4 ++ flat [r5] ++ (flat rs).drop (4 + (flat [r5]).length) =flat (rs.set 1 r5) :=by
    obtain⟨x, y, z, rfl⟩ :=VJ Hl.out;rfl
   rw[e2]at hC;obtain⟨a1, a2, a3, a4, a5⟩ :=Ff (w.heap.size + 1 + 1) (flat [r5]) 4 v3;have hW : Wr (w.heap.size + 1 + 1) v3 (v3.setCells (w.heap.size + 1 + 1) 4 (flat [r5])) :=⟨a1, a2, a3, a4, a5, flat rs, flat (rs.set 1 r5), Hc2, hC, by rw[Fc, Fc, M6], Fa _, Fa _⟩;have HR :=Lh (Row3.up (k :=1) Hl.out (fun i r q h1 h2 h3 => (Hr.out i r q h1 h2 h3).keep hS) (by decide) rfl hW hC (hv5.wr hW));have H0 :=Lh ((V0.out _ hS).wr hW (show w.heap.size ≠ w.heap.size + 1 + 1 by omega));have HZ :=Lh ((Hz.out.keep hS).wr hW (show w.heap.size + 1 ≠ w.heap.size + 1 + 1 by omega));have HB :=Lh (hW.below (show w.heap.size <= w.heap.size + 1 + 1 by omega) (Hb.out.trans (hS.mono Hb.out.size)));have hrun :=Lh hrun;clear a1 a2 a3 a4 a5 e2 hlen hC Hc2;obtain⟨v4, hv4⟩ : ∃u, v3.setCells (w.heap.size + 1 + 1) 4 (flat [r5]) =u :=⟨_, rfl⟩;have e4 : v3.setCells (w.heap.size + 1 + 1) 4 (flat [r5]).toArray.toList =v4 :=hv4;rw[e4]at hrun;rw[hv4]at HR H0 HZ HB;clear hW hv4 e4;have hst : ∀o : Oper, o.op = .store 31 (.tmp 30) (.tmp 28) -> ∀a : Act, a.eval (.tmp 30) =Jp (Jo ⟨w.heap.size + 1 + 1, 4, Jn⟩) -> a.eval (.tmp 28) =Ja (flat [r5]).toArray -> (execOp a.eval o).run Tryz.prog v3 = .ok .skip v4 :=fun o ho a e1 e2 => by
    unfold execOp;rw[ho];dsimp only;rw[e1, e2, Sem.run_bind, hrun.out];rfl
   refine FK 18 20 (d :=29) (u :=Ji Jl 0) hS (by kernel_rfl) rfl rfl rfl rfl rfl rfl rfl rfl (hst _ rfl _ rfl rfl) (hst _ rfl _ rfl rfl) (by kernel_rfl) ?_;try simp only[M0, Pls]
   clear hS hst hrun hv5 f5 hr5 V0 G Hc Hr Hz Hb V0c Fd If;go_wp2_with fail
   go_roundw;case rel => exact⟨2, 2, by decide, rfl, by go_num, HR.out, H0.out, HZ.out, HB.out⟩
   case measure => simp[intOf]
  ·obtain rfl : z =2 :=hzk;go_upto_region 5 with fail
   refine Till.begin 20 (fun v => Below wr.heap.size wr v) (by kernel_rfl) (M4 _ _).drew (fun hS => ?_);generalize wr.drew =v0 at hS ⊢;refine EY 0 12 (Ji Jl 2) hS (fun _ _ _ h => h) rfl rfl rfl (fun v h => rfl) (by kernel_rfl) ?_;try simp only[M0, Pls]
   refine EY 1 13 (Ji Jl 0) hS (fun _ _ _ h => h) rfl rfl rfl (fun v h => rfl) (by kernel_rfl) ?_;try simp only[M0, Pls]
   refine EY 2 14 (Ji Jl 2) hS (fun _ _ _ h => h) rfl rfl rfl (fun v h => rfl) (by kernel_rfl) ?_;try simp only[M0, Pls]
   refine EY 3 15 (Ji Jl 2) hS (fun _ _ _ h => h) rfl rfl rfl (fun v h => by go_simp <;> rfl) (by kernel_rfl) ?_;try simp only[M0, Pls]
   refine EY 4 16 (Jp (Jo ⟨w.heap.size, 0, Jn⟩)) hS (fun _ _ _ h => h) rfl rfl rfl (fun v h => by go_simp <;> rfl) (by kernel_rfl) ?_;try simp only[M0, Pls]
   refine EY 5 17 (Jp (Jo ⟨w.heap.size, 2, Jn⟩)) hS (fun _ _ _ h => h) rfl rfl rfl (fun v h => by go_simp <;> rfl) (by kernel_rfl) ?_;try simp only[M0, Pls]
   refine EY 6 18 (Ji .i8 n2) hS (fun _ _ _ h => h) rfl rfl rfl (fun v h => by have c : v.cell? ⟨w.heap.size, 2, Jn⟩ =Jo (Ji .i8 n2) :=(V0.out v h).at_ 2;go_simp) (by kernel_rfl) ?_;try simp only[M0, Pls]
   refine EY 7 19 (Ji Jl n2) hS (fun _ _ _ h => h) rfl rfl rfl (fun v h => by go_simp <;> rfl) (by kernel_rfl) ?_;try simp only[M0, Pls]
   refine EY 9 21 (Jp (Jo ⟨w.heap.size, 6, Jn⟩)) hS (fun _ _ _ h => h) rfl rfl rfl (fun v h => by go_simp <;> rfl) (by kernel_rfl) ?_;try simp only[M0, Pls]
   refine EY 10 22 (Ji .u8 d) hS (fun _ _ _ h => h) rfl rfl rfl (fun v h => by have c : v.cell? ⟨w.heap.size, 6, Jn⟩ =Jo (Ji .u8 d) :=(V0.out v h).at_ 6;go_simp) (by kernel_rfl) ?_;try simp only[M0, Pls]
   refine EY 11 23 (Ji .u8 r) hS (fun _ _ _ h => h) rfl rfl rfl (fun v h => by go_simp <;> rfl) (by kernel_rfl) ?_;try simp only[M0, Pls]
   refine EY 12 24 (Ji Jl r) hS (fun _ _ _ h => h) rfl rfl rfl (fun v h => by go_simp <;> rfl) (by kernel_rfl) ?_;try simp only[M0, Pls]
   refine EY 13 25 (Ji Jl (1 + r)) hS (fun _ _ _ h => h) rfl rfl rfl (fun v h => by go_simp <;> rfl) (by kernel_rfl) ?_;try simp only[M0, Pls]
   refine Fj 8 cf51 (by kernel_rfl) rfl rfl rfl rfl rfl rfl (Fv (n :=3) If.out.2.2.2.2.2.2 If.out.2.2.2.2.2.1) (fun v h => Jd hS h) (fun x1 v1 h1 F1 => ?_);replace hS :=Jd hS h1;try simp only[M0, Pls]
   refine Fj 14 cf51 (by kernel_rfl) rfl rfl rfl rfl rfl rfl (Fv (n :=1) If.out.1 Fd.out.2) (fun v h => Jd hS h) (fun x2 v2 h2 F2 => ?_);replace hS :=Jd hS h2;replace F1 :=Fct.keep _ F1 h2;try simp only[M0, Pls]
   refine Fj 15 cf50 (by kernel_rfl) rfl rfl rfl rfl rfl rfl (FI (n :=4) F1 F2 Fd.out.1 (by kernel_rfl) (G.out _ hS)) (fun v h => Jd hS h) (fun x3 v3 h3 F3 => ?_);replace hS :=Jd hS h3;try simp only[M0, Pls]
   obtain⟨rs5, rfl, hr5, f5⟩ :=F3;obtain⟨r5, rs5, rfl, hv5, hr5⟩ :=hr5.cons;obtain rfl :=hr5.nil_;clear F1 F2 h1 h2 h3;refine FB 16 hS (by kernel_rfl) rfl rfl rfl rfl ?_;try simp only[M0, Pls]
   refine EY 17 28 (Ja (flat [r5]).toArray) hS (fun _ _ _ h => h) rfl rfl rfl (fun v h => rfl) (by kernel_rfl) ?_;try simp only[M0, Pls]
   refine EY 19 30 (Jp (Jo ⟨w.heap.size + 1 + 1, 8, Jn⟩)) hS (fun _ _ _ h => h) rfl rfl rfl (fun v h => by go_simp <;> rfl) (by kernel_rfl) ?_;try simp only[M0, Pls]
   have Hc2 :=Hc.out.keep hS;have hlen : (flat rs).length =12 :=by rw[Fc, Hl.out]
   have hrun :=run_storeAt_mid (P :=Tryz.prog) v3 (w.heap.size + 1 + 1) 8 31 (flat [r5]).toArray (fun j hj => ⟨by rw[Hc2.at_, M2 (by rw[hlen];have : j < 4 :=hj;omega)];rfl, Hc2.fz _⟩) (by kernel_rfl) (all_oneCell_toArray fun v hv => Fo (List.all_eq_true.1 (Fa [r5]) v hv));have hC :=Hc2.part (o :=8) (vs :=flat [r5]) (by rw[hlen];show 8 + 4 <= 12;decide);have e2 : (flat rs).take 8 ++ flat [r5] ++ (flat rs).drop (8 + (flat [r5]).length) =flat (rs.set 2 r5) :=by
    obtain⟨x, y, z, rfl⟩ :=VJ Hl.out;rfl
   rw[e2]at hC;obtain⟨a1, a2, a3, a4, a5⟩ :=Ff (w.heap.size + 1 + 1) (flat [r5]) 8 v3;have hW : Wr (w.heap.size + 1 + 1) v3 (v3.setCells (w.heap.size + 1 + 1) 8 (flat [r5])) :=⟨a1, a2, a3, a4, a5, flat rs, flat (rs.set 2 r5), Hc2, hC, by rw[Fc, Fc, M6], Fa _, Fa _⟩;have HR :=Lh (Row3.up (k :=2) Hl.out (fun i r q h1 h2 h3 => (Hr.out i r q h1 h2 h3).keep hS) (by decide) rfl hW hC (hv5.wr hW));have H0 :=Lh ((V0.out _ hS).wr hW (show w.heap.size ≠ w.heap.size + 1 + 1 by omega));have HZ :=Lh ((Hz.out.keep hS).wr hW (show w.heap.size + 1 ≠ w.heap.size + 1 + 1 by omega));have HB :=Lh (hW.below (show w.heap.size <= w.heap.size + 1 + 1 by omega) (Hb.out.trans (hS.mono Hb.out.size)));have hrun :=Lh hrun;clear a1 a2 a3 a4 a5 e2 hlen hC Hc2;obtain⟨v4, hv4⟩ : ∃u, v3.setCells (w.heap.size + 1 + 1) 8 (flat [r5]) =u :=⟨_, rfl⟩;have e4 : v3.setCells (w.heap.size + 1 + 1) 8 (flat [r5]).toArray.toList =v4 :=hv4;rw[e4]at hrun;rw[hv4]at HR H0 HZ HB;clear hW hv4 e4;have hst : ∀o : Oper, o.op = .store 31 (.tmp 30) (.tmp 28) -> ∀a : Act, a.eval (.tmp 30) =Jp (Jo ⟨w.heap.size + 1 + 1, 8, Jn⟩) -> a.eval (.tmp 28) =Ja (flat [r5]).toArray -> (execOp a.eval o).run Tryz.prog v3 = .ok .skip v4 :=fun o ho a e1 e2 => by
    unfold execOp;rw[ho];dsimp only;rw[e1, e2, Sem.run_bind, hrun.out];rfl
   refine FK 18 20 (d :=29) (u :=Ji Jl 0) hS (by kernel_rfl) rfl rfl rfl rfl rfl rfl rfl rfl (hst _ rfl _ rfl rfl) (hst _ rfl _ rfl rfl) (by kernel_rfl) ?_;try simp only[M0, Pls]
   clear hS hst hrun hv5 f5 hr5 V0 G Hc Hr Hz Hb V0c Fd If;go_wp2_with fail
   go_roundw;case rel => exact⟨3, 3, by decide, rfl, by go_num, HR.out, H0.out, HZ.out, HB.out⟩
   case measure => simp[intOf]
  ·obtain rfl : z =3 :=hzk;go_upto_region 6 with fail
   have VA :=Lh (Row3.done ⟨rs, Hl.out, Hc.out, Hr.out⟩ FF.out);clear V0 Hc Hr V0c Fd If;have VB :=Lh (fun w' (hb : Below wr.heap.size wr w') => VA.out.keep hb);refine E8 32 [(31, false, 0)] []
    [Fct.num [] 4 [tq n0 r, tq n1 r, tq n2 r]]
    1 rfl (by kernel_rfl) rfl ⟨?_, trivial⟩
    (fun val => ⟨#[Ja #[Ji .i8 n0, Ji .i8 n1, Ji .i8 n2, Ji .i8 n3, Ji .i8 n4, Ji .i8 n5, Ji .u8 d], Ji Jl 0, Jp (Jo ⟨w.heap.size, 0, Jn⟩), undef, Jp (Jo ⟨w.heap.size + 1, 0, Jn⟩), Jp (Jo ⟨w.heap.size + 1 + 1, 0, Jn⟩), Ji Jl 3, Ji Jl 3, .bool false, u9, u10, u11, u12, u13, u14, u15, u16, u17, u18, u19, u20, u21, u22, u23, u24, u25, u26, u27, u28, u29, u30, val 31], []⟩) (fun val => by kernel_rfl) (fun val v hB hF => ⟨?_⟩)
   ·exact E7 VB.out (.env rfl (by kernel_rfl)) rfl rfl rfl (by kernel_rfl) (by kernel_rfl)
   ·have hx :=hF 0 _ rfl;clear hF;refine Fr (n :=12) (Hz.out.keep hB) hx rfl rfl rfl rfl rfl (by kernel_rfl) (by kernel_rfl) (fun v2 hW hV => ?_);have Kf :=hW.below (show w.heap.size <= w.heap.size + 1 by omega) (Hb.out.trans (hB.mono Hb.out.size));clear hB VA VB Hz Hb G hx hW;go_wp2_with fail
    exact Fu (n :=12) hV Kf rfl rfl (by kernel_rfl) (by kernel_rfl) rfl
set_option maxRecDepth 100000 in
set_option maxHeartbeats 16000000 in
theorem FU{n0 n1 n2 n3 n4 n5 d r : Int}{w : JW}(h : S6 n0 n1 n2 n3 n4 n5 d r)(hg : Good w) : Calls Tryz.prog 27 #[Ja #[Ji .i8 n0, Ji .i8 n1, Ji .i8 n2, Ji .i8 n3, Ji .i8 n4, Ji .i8 n5, Ji .u8 d], Ji Jl 3] w (Ret w (Fct.num [] 4 [tq n3 r, tq n4 r, tq n5 r])) :=by
 have r0 : 0 <= r :=by have :=h.r_;have :=h.d0;omega
 have r1 : r <= 2 :=by have :=h.r_;omega
 have hwr : M3 Jl r =r :=EM (by omega) (by omega);have hw1r : M3 Jl (1 + r) =1 + r :=EM (by omega) (by omega);have hwu : M3 .u8 r =r :=by unfold M3;simp[go_sem];omega
 have htm : Int.tmod d 3 =r :=by rw[M9 h.d0];exact h.r_
 have hem : d%3 =r :=h.r_;have hd : ((1 + r : Int) : Rat).num ≠ 0 :=by rw[Mz];omega
 have fd : Few ((1 + r : Int) : Rat) 1 :=Fq (by show(1 + r).natAbs < 10;omega) (by decide);have i1r : I64 (1 + r) :=⟨by omega, by omega⟩;have hw3 : M3 Jl n3 =n3 :=EM h.h3.i64.1 h.h3.i64.2;have f3 :=h.h3.few;have i3 :=h.h3.i64;have hw4 : M3 Jl n4 =n4 :=EM h.h4.i64.1 h.h4.i64.2;have f4 :=h.h4.few;have i4 :=h.h4.i64;have hw5 : M3 Jl n5 =n5 :=EM h.h5.i64.1 h.h5.i64.2;have f5 :=h.h5.few;have i5 :=h.h5.i64;have ff : Few3 4 (tq n3 r) (tq n4 r) (tq n5 r) :=⟨f3.div fd hd, f4.div fd hd, f5.div fd hd⟩;have Fd :=Lh (M5 hd fd);have If :=Lh (M5 i1r (M5 f3 (M5 i3 (M5 f4 (M5 i4 (M5 f5 i5))))));have FF :=Lh ff;have Hg :=Lh hg;clear r0 r1 h hd fd i1r ff hg f3 i3 f4 i4 f5 i5;have k0 :=(M4 w.heap.size w).alloc (M7 _) (Jc #[Ji .i8 n0, Ji .i8 n1, Ji .i8 n2, Ji .i8 n3, Ji .i8 n4, Ji .i8 n5, Ji .u8 d] 53);have k1 :=k0.alloc (by simp) (Jc #[M1 Jl 0, Jp Jn, Ji Jl 0, Jp Jn, Ji Jl 0, Jp Jn, Ji Jl 0, Jp Jn, Ji Jl 0, Jp Jn, Ji Jl 0, Jp Jn] 35);have k2 :=k1.alloc (by simp;omega) (Jc #[M1 Jl 0, Jp Jn, Ji Jl 0, Jp Jn, Ji Jl 0, Jp Jn, Ji Jl 0, Jp Jn, Ji Jl 0, Jp Jn, Ji Jl 0, Jp Jn] 35);have V0 :=Jh.new w #[Ji .i8 n0, Ji .i8 n1, Ji .i8 n2, Ji .i8 n3, Ji .i8 n4, Ji .i8 n5, Ji .u8 d] 53;have V1 :=Jh.new (w.alloc (Jc #[Ji .i8 n0, Ji .i8 n1, Ji .i8 n2, Ji .i8 n3, Ji .i8 n4, Ji .i8 n5, Ji .u8 d] 53)) #[M1 Jl 0, Jp Jn, Ji Jl 0, Jp Jn, Ji Jl 0, Jp Jn, Ji Jl 0, Jp Jn, Ji Jl 0, Jp Jn, Ji Jl 0, Jp Jn] 35;have V2 :=Jh.new ((w.alloc (Jc #[Ji .i8 n0, Ji .i8 n1, Ji .i8 n2, Ji .i8 n3, Ji .i8 n4, Ji .i8 n5, Ji .u8 d] 53)).alloc (Jc #[M1 Jl 0, Jp Jn, Ji Jl 0, Jp Jn, Ji Jl 0, Jp Jn, Ji Jl 0, Jp Jn, Ji Jl 0, Jp Jn, Ji Jl 0, Jp Jn] 35)) #[M1 Jl 0, Jp Jn, Ji Jl 0, Jp Jn, Ji Jl 0, Jp Jn, Ji Jl 0, Jp Jn, Ji Jl 0, Jp Jn, Ji Jl 0, Jp Jn] 35
 have j1 :=(M4 (w.alloc (Jc #[Ji .i8 n0, Ji .i8 n1, Ji .i8 n2, Ji .i8 n3, Ji .i8 n4, Ji .i8 n5, Ji .u8 d] 53)).heap.size (w.alloc (Jc #[Ji .i8 n0, Ji .i8 n1, Ji .i8 n2, Ji .i8 n3, Ji .i8 n4, Ji .i8 n5, Ji .u8 d] 53))).alloc (M7 _) (Jc #[M1 Jl 0, Jp Jn, Ji Jl 0, Jp Jn, Ji Jl 0, Jp Jn, Ji Jl 0, Jp Jn, Ji Jl 0, Jp Jn, Ji Jl 0, Jp Jn] 35);have j2 :=(M4 ((w.alloc (Jc #[Ji .i8 n0, Ji .i8 n1, Ji .i8 n2, Ji .i8 n3, Ji .i8 n4, Ji .i8 n5, Ji .u8 d] 53)).alloc (Jc #[M1 Jl 0, Jp Jn, Ji Jl 0, Jp Jn, Ji Jl 0, Jp Jn, Ji Jl 0, Jp Jn, Ji Jl 0, Jp Jn, Ji Jl 0, Jp Jn] 35)).heap.size ((w.alloc (Jc #[Ji .i8 n0, Ji .i8 n1, Ji .i8 n2, Ji .i8 n3, Ji .i8 n4, Ji .i8 n5, Ji .u8 d] 53)).alloc (Jc #[M1 Jl 0, Jp Jn, Ji Jl 0, Jp Jn, Ji Jl 0, Jp Jn, Ji Jl 0, Jp Jn, Ji Jl 0, Jp Jn, Ji Jl 0, Jp Jn] 35))).alloc (M7 _) (Jc #[M1 Jl 0, Jp Jn, Ji Jl 0, Jp Jn, Ji Jl 0, Jp Jn, Ji Jl 0, Jp Jn, Ji Jl 0, Jp Jn, Ji Jl 0, Jp Jn] 35);replace V0 :=(V0.keep j1).keep j2;replace V1 :=V1.keep j2;simp only[My]at V0 V1 V2;obtain⟨W, hW⟩ : ∃W, ((w.alloc (Jc #[Ji .i8 n0, Ji .i8 n1, Ji .i8 n2, Ji .i8 n3, Ji .i8 n4, Ji .i8 n5, Ji .u8 d] 53)).alloc (Jc #[M1 Jl 0, Jp Jn, Ji Jl 0, Jp Jn, Ji Jl 0, Jp Jn, Ji Jl 0, Jp Jn, Ji Jl 0, Jp Jn, Ji Jl 0, Jp Jn] 35)).alloc (Jc #[M1 Jl 0, Jp Jn, Ji Jl 0, Jp Jn, Ji Jl 0, Jp Jn, Ji Jl 0, Jp Jn, Ji Jl 0, Jp Jn, Ji Jl 0, Jp Jn] 35) =W :=⟨_, rfl⟩;rw[hW]at k2 V0 V1 V2;have Hst :=Lh (show Row3 W (w.heap.size + 1 + 1) [tq n3 r, tq n4 r, tq n5 r] 0 /\ Jh W w.heap.size [Ji .i8 n0, Ji .i8 n1, Ji .i8 n2, Ji .i8 n3, Ji .i8 n4, Ji .i8 n5, Ji .u8 d] /\ Jh W (w.heap.size + 1) (flat [Jm, Jm, Jm]) /\ Below w.heap.size w W from⟨⟨[Jm, Jm, Jm], rfl, V2, fun _ _ _ h => absurd h (MA _)⟩, V0, V1, k2⟩)
 clear k0 k1 k2 j1 j2 V0 V1 V2;go_enter Tryz.func27, Tryz.ntmps27;go_wp2_with fail
 try simp only[hW]
 clear hW;go_loopw [6] (fun v wr => ∃(k : Nat) (z : Int), k <= 3 /\ z =(k : Int) /\ v =Ji Jl z /\ (Row3 wr (w.heap.size + 1 + 1) [tq n3 r, tq n4 r, tq n5 r] k /\ Jh wr w.heap.size [Ji .i8 n0, Ji .i8 n1, Ji .i8 n2, Ji .i8 n3, Ji .i8 n4, Ji .i8 n5, Ji .u8 d] /\ Jh wr (w.heap.size + 1) (flat [Jm, Jm, Jm]) /\ Below w.heap.size w wr)) (fun v _ => 3-(intOf v).toNat)
 case atStart => exact⟨0, 0, by decide, rfl, rfl, Hst.out⟩
 case round =>
  obtain⟨k, z, hk, hzk, rfl, ⟨rs, hl, hc, hr⟩, hb0, hz, hb⟩ :=hrel;have Hc :=Lh hc;have Hr :=Lh hr;have Hz :=Lh hz;have Hb :=Lh hb;have V0 :=Lh (fun w' (hb : Below wr.heap.size wr w') => hb0.keep hb);have G :=Lh (fun w' (hb' : Below wr.heap.size wr w') => Hg.out.below (hb.trans (hb'.mono hb.size)));have V0c :=Lh hb0;have Hl :=Lh hl;clear hc hr hz hb hb0 hl;obtain rfl|rfl|rfl|rfl : k =0 \/ k =1 \/ k =2 \/ k =3 :=by omega
  ·obtain rfl : z =0 :=hzk;go_upto_region 5 with fail
   refine Till.begin 20 (fun v => Below wr.heap.size wr v) (by kernel_rfl) (M4 _ _).drew (fun hS => ?_);generalize wr.drew =v0 at hS ⊢;refine EY 0 12 (Ji Jl 0) hS (fun _ _ _ h => h) rfl rfl rfl (fun v h => rfl) (by kernel_rfl) ?_;try simp only[M0, Pls]
   refine EY 1 13 (Ji Jl 3) hS (fun _ _ _ h => h) rfl rfl rfl (fun v h => rfl) (by kernel_rfl) ?_;try simp only[M0, Pls]
   refine EY 2 14 (Ji Jl 0) hS (fun _ _ _ h => h) rfl rfl rfl (fun v h => rfl) (by kernel_rfl) ?_;try simp only[M0, Pls]
   refine EY 3 15 (Ji Jl 3) hS (fun _ _ _ h => h) rfl rfl rfl (fun v h => by go_simp <;> rfl) (by kernel_rfl) ?_;try simp only[M0, Pls]
   refine EY 4 16 (Jp (Jo ⟨w.heap.size, 0, Jn⟩)) hS (fun _ _ _ h => h) rfl rfl rfl (fun v h => by go_simp <;> rfl) (by kernel_rfl) ?_;try simp only[M0, Pls]
   refine EY 5 17 (Jp (Jo ⟨w.heap.size, 3, Jn⟩)) hS (fun _ _ _ h => h) rfl rfl rfl (fun v h => by go_simp <;> rfl) (by kernel_rfl) ?_;try simp only[M0, Pls]
   refine EY 6 18 (Ji .i8 n3) hS (fun _ _ _ h => h) rfl rfl rfl (fun v h => by have c : v.cell? ⟨w.heap.size, 3, Jn⟩ =Jo (Ji .i8 n3) :=(V0.out v h).at_ 3;go_simp) (by kernel_rfl) ?_;try simp only[M0, Pls]
   refine EY 7 19 (Ji Jl n3) hS (fun _ _ _ h => h) rfl rfl rfl (fun v h => by go_simp <;> rfl) (by kernel_rfl) ?_;try simp only[M0, Pls]
   refine EY 9 21 (Jp (Jo ⟨w.heap.size, 6, Jn⟩)) hS (fun _ _ _ h => h) rfl rfl rfl (fun v h => by go_simp <;> rfl) (by kernel_rfl) ?_;try simp only[M0, Pls]
   refine EY 10 22 (Ji .u8 d) hS (fun _ _ _ h => h) rfl rfl rfl (fun v h => by have c : v.cell? ⟨w.heap.size, 6, Jn⟩ =Jo (Ji .u8 d) :=(V0.out v h).at_ 6;go_simp) (by kernel_rfl) ?_;try simp only[M0, Pls]
   refine EY 11 23 (Ji .u8 r) hS (fun _ _ _ h => h) rfl rfl rfl (fun v h => by go_simp <;> rfl) (by kernel_rfl) ?_;try simp only[M0, Pls]
   refine EY 12 24 (Ji Jl r) hS (fun _ _ _ h => h) rfl rfl rfl (fun v h => by go_simp <;> rfl) (by kernel_rfl) ?_;try simp only[M0, Pls]
   refine EY 13 25 (Ji Jl (1 + r)) hS (fun _ _ _ h => h) rfl rfl rfl (fun v h => by go_simp <;> rfl) (by kernel_rfl) ?_;try simp only[M0, Pls]
   refine Fj 8 cf51 (by kernel_rfl) rfl rfl rfl rfl rfl rfl (Fv (n :=3) If.out.2.2.1 If.out.2.1) (fun v h => Jd hS h) (fun x1 v1 h1 F1 => ?_);replace hS :=Jd hS h1;try simp only[M0, Pls]
   refine Fj 14 cf51 (by kernel_rfl) rfl rfl rfl rfl rfl rfl (Fv (n :=1) If.out.1 Fd.out.2) (fun v h => Jd hS h) (fun x2 v2 h2 F2 => ?_);replace hS :=Jd hS h2;replace F1 :=Fct.keep _ F1 h2;try simp only[M0, Pls]
   refine Fj 15 cf50 (by kernel_rfl) rfl rfl rfl rfl rfl rfl (FI (n :=4) F1 F2 Fd.out.1 (by kernel_rfl) (G.out _ hS)) (fun v h => Jd hS h) (fun x3 v3 h3 F3 => ?_);replace hS :=Jd hS h3;try simp only[M0, Pls]
   obtain⟨rs5, rfl, hr5, f5⟩ :=F3;obtain⟨r5, rs5, rfl, hv5, hr5⟩ :=hr5.cons;obtain rfl :=hr5.nil_;clear F1 F2 h1 h2 h3;refine FB 16 hS (by kernel_rfl) rfl rfl rfl rfl ?_;try simp only[M0, Pls]
   refine EY 17 28 (Ja (flat [r5]).toArray) hS (fun _ _ _ h => h) rfl rfl rfl (fun v h => rfl) (by kernel_rfl) ?_;try simp only[M0, Pls]
   refine EY 19 30 (Jp (Jo ⟨w.heap.size + 1 + 1, 0, Jn⟩)) hS (fun _ _ _ h => h) rfl rfl rfl (fun v h => by go_simp <;> rfl) (by kernel_rfl) ?_;try simp only[M0, Pls]
   have Hc2 :=Hc.out.keep hS;have hlen : (flat rs).length =12 :=by rw[Fc, Hl.out]
   have hrun :=run_storeAt_mid (P :=Tryz.prog) v3 (w.heap.size + 1 + 1) 0 31 (flat [r5]).toArray (fun j hj => ⟨by rw[Hc2.at_, M2 (by rw[hlen];have : j < 4 :=hj;omega)];rfl, Hc2.fz _⟩) (by kernel_rfl) (all_oneCell_toArray fun v hv => Fo (List.all_eq_true.1 (Fa [r5]) v hv));have hC :=Hc2.part (o :=0) (vs :=flat [r5]) (by rw[hlen];show 0 + 4 <= 12;decide);have e2 : (flat rs).take 0 ++ flat [r5] ++ (flat rs).drop (0 + (flat [r5]).length) =flat (rs.set 0 r5) :=by
    obtain⟨x, y, z, rfl⟩ :=VJ Hl.out;rfl
   rw[e2]at hC;obtain⟨a1, a2, a3, a4, a5⟩ :=Ff (w.heap.size + 1 + 1) (flat [r5]) 0 v3;have hW : Wr (w.heap.size + 1 + 1) v3 (v3.setCells (w.heap.size + 1 + 1) 0 (flat [r5])) :=⟨a1, a2, a3, a4, a5, flat rs, flat (rs.set 0 r5), Hc2, hC, by rw[Fc, Fc, M6], Fa _, Fa _⟩;have HR :=Lh (Row3.up (k :=0) Hl.out (fun i r q h1 h2 h3 => (Hr.out i r q h1 h2 h3).keep hS) (by decide) rfl hW hC (hv5.wr hW));have H0 :=Lh ((V0.out _ hS).wr hW (show w.heap.size ≠ w.heap.size + 1 + 1 by omega));have HZ :=Lh ((Hz.out.keep hS).wr hW (show w.heap.size + 1 ≠ w.heap.size + 1 + 1 by omega));have HB :=Lh (hW.below (show w.heap.size <= w.heap.size + 1 + 1 by omega) (Hb.out.trans (hS.mono Hb.out.size)));have hrun :=Lh hrun;clear a1 a2 a3 a4 a5 e2 hlen hC Hc2;obtain⟨v4, hv4⟩ : ∃u, v3.setCells (w.heap.size + 1 + 1) 0 (flat [r5]) =u :=⟨_, rfl⟩;have e4 : v3.setCells (w.heap.size + 1 + 1) 0 (flat [r5]).toArray.toList =v4 :=hv4;rw[e4]at hrun;rw[hv4]at HR H0 HZ HB;clear hW hv4 e4;have hst : ∀o : Oper, o.op = .store 31 (.tmp 30) (.tmp 28) -> ∀a : Act, a.eval (.tmp 30) =Jp (Jo ⟨w.heap.size + 1 + 1, 0, Jn⟩) -> a.eval (.tmp 28) =Ja (flat [r5]).toArray -> (execOp a.eval o).run Tryz.prog v3 = .ok .skip v4 :=fun o ho a e1 e2 => by
    unfold execOp;rw[ho];dsimp only;rw[e1, e2, Sem.run_bind, hrun.out];rfl
   refine FK 18 20 (d :=29) (u :=Ji Jl 0) hS (by kernel_rfl) rfl rfl rfl rfl rfl rfl rfl rfl (hst _ rfl _ rfl rfl) (hst _ rfl _ rfl rfl) (by kernel_rfl) ?_;try simp only[M0, Pls]
   clear hS hst hrun hv5 f5 hr5 V0 G Hc Hr Hz Hb V0c Fd If;go_wp2_with fail
   go_roundw;case rel => exact⟨1, 1, by decide, rfl, by go_num, HR.out, H0.out, HZ.out, HB.out⟩
   case measure => simp[intOf]
  ·obtain rfl : z =1 :=hzk;go_upto_region 5 with fail
   refine Till.begin 20 (fun v => Below wr.heap.size wr v) (by kernel_rfl) (M4 _ _).drew (fun hS => ?_);generalize wr.drew =v0 at hS ⊢;refine EY 0 12 (Ji Jl 1) hS (fun _ _ _ h => h) rfl rfl rfl (fun v h => rfl) (by kernel_rfl) ?_;try simp only[M0, Pls]
   refine EY 1 13 (Ji Jl 3) hS (fun _ _ _ h => h) rfl rfl rfl (fun v h => rfl) (by kernel_rfl) ?_;try simp only[M0, Pls]
   refine EY 2 14 (Ji Jl 1) hS (fun _ _ _ h => h) rfl rfl rfl (fun v h => rfl) (by kernel_rfl) ?_;try simp only[M0, Pls]
   refine EY 3 15 (Ji Jl 4) hS (fun _ _ _ h => h) rfl rfl rfl (fun v h => by go_simp <;> rfl) (by kernel_rfl) ?_;try simp only[M0, Pls]
   refine EY 4 16 (Jp (Jo ⟨w.heap.size, 0, Jn⟩)) hS (fun _ _ _ h => h) rfl rfl rfl (fun v h => by go_simp <;> rfl) (by kernel_rfl) ?_;try simp only[M0, Pls]
   refine EY 5 17 (Jp (Jo ⟨w.heap.size, 4, Jn⟩)) hS (fun _ _ _ h => h) rfl rfl rfl (fun v h => by go_simp <;> rfl) (by kernel_rfl) ?_;try simp only[M0, Pls]
   refine EY 6 18 (Ji .i8 n4) hS (fun _ _ _ h => h) rfl rfl rfl (fun v h => by have c : v.cell? ⟨w.heap.size, 4, Jn⟩ =Jo (Ji .i8 n4) :=(V0.out v h).at_ 4;go_simp) (by kernel_rfl) ?_;try simp only[M0, Pls]
   refine EY 7 19 (Ji Jl n4) hS (fun _ _ _ h => h) rfl rfl rfl (fun v h => by go_simp <;> rfl) (by kernel_rfl) ?_;try simp only[M0, Pls]
   refine EY 9 21 (Jp (Jo ⟨w.heap.size, 6, Jn⟩)) hS (fun _ _ _ h => h) rfl rfl rfl (fun v h => by go_simp <;> rfl) (by kernel_rfl) ?_;try simp only[M0, Pls]
   refine EY 10 22 (Ji .u8 d) hS (fun _ _ _ h => h) rfl rfl rfl (fun v h => by have c : v.cell? ⟨w.heap.size, 6, Jn⟩ =Jo (Ji .u8 d) :=(V0.out v h).at_ 6;go_simp) (by kernel_rfl) ?_;try simp only[M0, Pls]
   refine EY 11 23 (Ji .u8 r) hS (fun _ _ _ h => h) rfl rfl rfl (fun v h => by go_simp <;> rfl) (by kernel_rfl) ?_;try simp only[M0, Pls]
   refine EY 12 24 (Ji Jl r) hS (fun _ _ _ h => h) rfl rfl rfl (fun v h => by go_simp <;> rfl) (by kernel_rfl) ?_;try simp only[M0, Pls]
   refine EY 13 25 (Ji Jl (1 + r)) hS (fun _ _ _ h => h) rfl rfl rfl (fun v h => by go_simp <;> rfl) (by kernel_rfl) ?_;try simp only[M0, Pls]
   refine Fj 8 cf51 (by kernel_rfl) rfl rfl rfl rfl rfl rfl (Fv (n :=3) If.out.2.2.2.2.1 If.out.2.2.2.1) (fun v h => Jd hS h) (fun x1 v1 h1 F1 => ?_);replace hS :=Jd hS h1;try simp only[M0, Pls]
   refine Fj 14 cf51 (by kernel_rfl) rfl rfl rfl rfl rfl rfl (Fv (n :=1) If.out.1 Fd.out.2) (fun v h => Jd hS h) (fun x2 v2 h2 F2 => ?_);replace hS :=Jd hS h2;replace F1 :=Fct.keep _ F1 h2;try simp only[M0, Pls]
   refine Fj 15 cf50 (by kernel_rfl) rfl rfl rfl rfl rfl rfl (FI (n :=4) F1 F2 Fd.out.1 (by kernel_rfl) (G.out _ hS)) (fun v h => Jd hS h) (fun x3 v3 h3 F3 => ?_);replace hS :=Jd hS h3;try simp only[M0, Pls]
   obtain⟨rs5, rfl, hr5, f5⟩ :=F3;obtain⟨r5, rs5, rfl, hv5, hr5⟩ :=hr5.cons;obtain rfl :=hr5.nil_;clear F1 F2 h1 h2 h3;refine FB 16 hS (by kernel_rfl) rfl rfl rfl rfl ?_;try simp only[M0, Pls]
   refine EY 17 28 (Ja (flat [r5]).toArray) hS (fun _ _ _ h => h) rfl rfl rfl (fun v h => rfl) (by kernel_rfl) ?_;try simp only[M0, Pls]
   refine EY 19 30 (Jp (Jo ⟨w.heap.size + 1 + 1, 4, Jn⟩)) hS (fun _ _ _ h => h) rfl rfl rfl (fun v h => by go_simp <;> rfl) (by kernel_rfl) ?_;try simp only[M0, Pls]
   have Hc2 :=Hc.out.keep hS;have hlen : (flat rs).length =12 :=by rw[Fc, Hl.out]
   have hrun :=run_storeAt_mid (P :=Tryz.prog) v3 (w.heap.size + 1 + 1) 4 31 (flat [r5]).toArray (fun j hj => ⟨by rw[Hc2.at_, M2 (by rw[hlen];have : j < 4 :=hj;omega)];rfl, Hc2.fz _⟩) (by kernel_rfl) (all_oneCell_toArray fun v hv => Fo (List.all_eq_true.1 (Fa [r5]) v hv));have hC :=Hc2.part (o :=4) (vs :=flat [r5]) (by rw[hlen];show 4 + 4 <= 12;decide);have e2 : (flat rs).take 4 ++ flat [r5] ++ (flat rs).drop (4 + (flat [r5]).length) =flat (rs.set 1 r5) :=by
    obtain⟨x, y, z, rfl⟩ :=VJ Hl.out;rfl
   rw[e2]at hC;obtain⟨a1, a2, a3, a4, a5⟩ :=Ff (w.heap.size + 1 + 1) (flat [r5]) 4 v3;have hW : Wr (w.heap.size + 1 + 1) v3 (v3.setCells (w.heap.size + 1 + 1) 4 (flat [r5])) :=⟨a1, a2, a3, a4, a5, flat rs, flat (rs.set 1 r5), Hc2, hC, by rw[Fc, Fc, M6], Fa _, Fa _⟩;have HR :=Lh (Row3.up (k :=1) Hl.out (fun i r q h1 h2 h3 => (Hr.out i r q h1 h2 h3).keep hS) (by decide) rfl hW hC (hv5.wr hW));have H0 :=Lh ((V0.out _ hS).wr hW (show w.heap.size ≠ w.heap.size + 1 + 1 by omega));have HZ :=Lh ((Hz.out.keep hS).wr hW (show w.heap.size + 1 ≠ w.heap.size + 1 + 1 by omega));have HB :=Lh (hW.below (show w.heap.size <= w.heap.size + 1 + 1 by omega) (Hb.out.trans (hS.mono Hb.out.size)));have hrun :=Lh hrun;clear a1 a2 a3 a4 a5 e2 hlen hC Hc2;obtain⟨v4, hv4⟩ : ∃u, v3.setCells (w.heap.size + 1 + 1) 4 (flat [r5]) =u :=⟨_, rfl⟩;have e4 : v3.setCells (w.heap.size + 1 + 1) 4 (flat [r5]).toArray.toList =v4 :=hv4;rw[e4]at hrun;rw[hv4]at HR H0 HZ HB;clear hW hv4 e4;have hst : ∀o : Oper, o.op = .store 31 (.tmp 30) (.tmp 28) -> ∀a : Act, a.eval (.tmp 30) =Jp (Jo ⟨w.heap.size + 1 + 1, 4, Jn⟩) -> a.eval (.tmp 28) =Ja (flat [r5]).toArray -> (execOp a.eval o).run Tryz.prog v3 = .ok .skip v4 :=fun o ho a e1 e2 => by
    unfold execOp;rw[ho];dsimp only;rw[e1, e2, Sem.run_bind, hrun.out];rfl
   refine FK 18 20 (d :=29) (u :=Ji Jl 0) hS (by kernel_rfl) rfl rfl rfl rfl rfl rfl rfl rfl (hst _ rfl _ rfl rfl) (hst _ rfl _ rfl rfl) (by kernel_rfl) ?_;try simp only[M0, Pls]
   clear hS hst hrun hv5 f5 hr5 V0 G Hc Hr Hz Hb V0c Fd If;go_wp2_with fail
   go_roundw;case rel => exact⟨2, 2, by decide, rfl, by go_num, HR.out, H0.out, HZ.out, HB.out⟩
   case measure => simp[intOf]
  ·obtain rfl : z =2 :=hzk;go_upto_region 5 with fail
   refine Till.begin 20 (fun v => Below wr.heap.size wr v) (by kernel_rfl) (M4 _ _).drew (fun hS => ?_);generalize wr.drew =v0 at hS ⊢;refine EY 0 12 (Ji Jl 2) hS (fun _ _ _ h => h) rfl rfl rfl (fun v h => rfl) (by kernel_rfl) ?_;try simp only[M0, Pls]
   refine EY 1 13 (Ji Jl 3) hS (fun _ _ _ h => h) rfl rfl rfl (fun v h => rfl) (by kernel_rfl) ?_;try simp only[M0, Pls]
   refine EY 2 14 (Ji Jl 2) hS (fun _ _ _ h => h) rfl rfl rfl (fun v h => rfl) (by kernel_rfl) ?_;try simp only[M0, Pls]
   refine EY 3 15 (Ji Jl 5) hS (fun _ _ _ h => h) rfl rfl rfl (fun v h => by go_simp <;> rfl) (by kernel_rfl) ?_;try simp only[M0, Pls]
   refine EY 4 16 (Jp (Jo ⟨w.heap.size, 0, Jn⟩)) hS (fun _ _ _ h => h) rfl rfl rfl (fun v h => by go_simp <;> rfl) (by kernel_rfl) ?_;try simp only[M0, Pls]
   refine EY 5 17 (Jp (Jo ⟨w.heap.size, 5, Jn⟩)) hS (fun _ _ _ h => h) rfl rfl rfl (fun v h => by go_simp <;> rfl) (by kernel_rfl) ?_;try simp only[M0, Pls]
   refine EY 6 18 (Ji .i8 n5) hS (fun _ _ _ h => h) rfl rfl rfl (fun v h => by have c : v.cell? ⟨w.heap.size, 5, Jn⟩ =Jo (Ji .i8 n5) :=(V0.out v h).at_ 5;go_simp) (by kernel_rfl) ?_;try simp only[M0, Pls]
   refine EY 7 19 (Ji Jl n5) hS (fun _ _ _ h => h) rfl rfl rfl (fun v h => by go_simp <;> rfl) (by kernel_rfl) ?_;try simp only[M0, Pls]
   refine EY 9 21 (Jp (Jo ⟨w.heap.size, 6, Jn⟩)) hS (fun _ _ _ h => h) rfl rfl rfl (fun v h => by go_simp <;> rfl) (by kernel_rfl) ?_;try simp only[M0, Pls]
   refine EY 10 22 (Ji .u8 d) hS (fun _ _ _ h => h) rfl rfl rfl (fun v h => by have c : v.cell? ⟨w.heap.size, 6, Jn⟩ =Jo (Ji .u8 d) :=(V0.out v h).at_ 6;go_simp) (by kernel_rfl) ?_;try simp only[M0, Pls]
   refine EY 11 23 (Ji .u8 r) hS (fun _ _ _ h => h) rfl rfl rfl (fun v h => by go_simp <;> rfl) (by kernel_rfl) ?_;try simp only[M0, Pls]
   refine EY 12 24 (Ji Jl r) hS (fun _ _ _ h => h) rfl rfl rfl (fun v h => by go_simp <;> rfl) (by kernel_rfl) ?_;try simp only[M0, Pls]
   refine EY 13 25 (Ji Jl (1 + r)) hS (fun _ _ _ h => h) rfl rfl rfl (fun v h => by go_simp <;> rfl) (by kernel_rfl) ?_;try simp only[M0, Pls]
   refine Fj 8 cf51 (by kernel_rfl) rfl rfl rfl rfl rfl rfl (Fv (n :=3) If.out.2.2.2.2.2.2 If.out.2.2.2.2.2.1) (fun v h => Jd hS h) (fun x1 v1 h1 F1 => ?_);replace hS :=Jd hS h1;try simp only[M0, Pls]
   refine Fj 14 cf51 (by kernel_rfl) rfl rfl rfl rfl rfl rfl (Fv (n :=1) If.out.1 Fd.out.2) (fun v h => Jd hS h) (fun x2 v2 h2 F2 => ?_);replace hS :=Jd hS h2;replace F1 :=Fct.keep _ F1 h2;try simp only[M0, Pls]
   refine Fj 15 cf50 (by kernel_rfl) rfl rfl rfl rfl rfl rfl (FI (n :=4) F1 F2 Fd.out.1 (by kernel_rfl) (G.out _ hS)) (fun v h => Jd hS h) (fun x3 v3 h3 F3 => ?_);replace hS :=Jd hS h3;try simp only[M0, Pls]
   obtain⟨rs5, rfl, hr5, f5⟩ :=F3;obtain⟨r5, rs5, rfl, hv5, hr5⟩ :=hr5.cons;obtain rfl :=hr5.nil_;clear F1 F2 h1 h2 h3;refine FB 16 hS (by kernel_rfl) rfl rfl rfl rfl ?_;try simp only[M0, Pls]
   refine EY 17 28 (Ja (flat [r5]).toArray) hS (fun _ _ _ h => h) rfl rfl rfl (fun v h => rfl) (by kernel_rfl) ?_;try simp only[M0, Pls]
   refine EY 19 30 (Jp (Jo ⟨w.heap.size + 1 + 1, 8, Jn⟩)) hS (fun _ _ _ h => h) rfl rfl rfl (fun v h => by go_simp <;> rfl) (by kernel_rfl) ?_;try simp only[M0, Pls]
   have Hc2 :=Hc.out.keep hS;have hlen : (flat rs).length =12 :=by rw[Fc, Hl.out]
   have hrun :=run_storeAt_mid (P :=Tryz.prog) v3 (w.heap.size + 1 + 1) 8 31 (flat [r5]).toArray (fun j hj => ⟨by rw[Hc2.at_, M2 (by rw[hlen];have : j < 4 :=hj;omega)];rfl, Hc2.fz _⟩) (by kernel_rfl) (all_oneCell_toArray fun v hv => Fo (List.all_eq_true.1 (Fa [r5]) v hv));have hC :=Hc2.part (o :=8) (vs :=flat [r5]) (by rw[hlen];show 8 + 4 <= 12;decide);have e2 : (flat rs).take 8 ++ flat [r5] ++ (flat rs).drop (8 + (flat [r5]).length) =flat (rs.set 2 r5) :=by
    obtain⟨x, y, z, rfl⟩ :=VJ Hl.out;rfl
   rw[e2]at hC;obtain⟨a1, a2, a3, a4, a5⟩ :=Ff (w.heap.size + 1 + 1) (flat [r5]) 8 v3;have hW : Wr (w.heap.size + 1 + 1) v3 (v3.setCells (w.heap.size + 1 + 1) 8 (flat [r5])) :=⟨a1, a2, a3, a4, a5, flat rs, flat (rs.set 2 r5), Hc2, hC, by rw[Fc, Fc, M6], Fa _, Fa _⟩;have HR :=Lh (Row3.up (k :=2) Hl.out (fun i r q h1 h2 h3 => (Hr.out i r q h1 h2 h3).keep hS) (by decide) rfl hW hC (hv5.wr hW));have H0 :=Lh ((V0.out _ hS).wr hW (show w.heap.size ≠ w.heap.size + 1 + 1 by omega));have HZ :=Lh ((Hz.out.keep hS).wr hW (show w.heap.size + 1 ≠ w.heap.size + 1 + 1 by omega));have HB :=Lh (hW.below (show w.heap.size <= w.heap.size + 1 + 1 by omega) (Hb.out.trans (hS.mono Hb.out.size)));have hrun :=Lh hrun;clear a1 a2 a3 a4 a5 e2 hlen hC Hc2;obtain⟨v4, hv4⟩ : ∃u, v3.setCells (w.heap.size + 1 + 1) 8 (flat [r5]) =u :=⟨_, rfl⟩;have e4 : v3.setCells (w.heap.size + 1 + 1) 8 (flat [r5]).toArray.toList =v4 :=hv4;rw[e4]at hrun;rw[hv4]at HR H0 HZ HB;clear hW hv4 e4;have hst : ∀o : Oper, o.op = .store 31 (.tmp 30) (.tmp 28) -> ∀a : Act, a.eval (.tmp 30) =Jp (Jo ⟨w.heap.size + 1 + 1, 8, Jn⟩) -> a.eval (.tmp 28) =Ja (flat [r5]).toArray -> (execOp a.eval o).run Tryz.prog v3 = .ok .skip v4 :=fun o ho a e1 e2 => by
    unfold execOp;rw[ho];dsimp only;rw[e1, e2, Sem.run_bind, hrun.out];rfl
   refine FK 18 20 (d :=29) (u :=Ji Jl 0) hS (by kernel_rfl) rfl rfl rfl rfl rfl rfl rfl rfl (hst _ rfl _ rfl rfl) (hst _ rfl _ rfl rfl) (by kernel_rfl) ?_;try simp only[M0, Pls]
   clear hS hst hrun hv5 f5 hr5 V0 G Hc Hr Hz Hb V0c Fd If;go_wp2_with fail
   go_roundw;case rel => exact⟨3, 3, by decide, rfl, by go_num, HR.out, H0.out, HZ.out, HB.out⟩
   case measure => simp[intOf]
  ·obtain rfl : z =3 :=hzk;go_upto_region 6 with fail
   have VA :=Lh (Row3.done ⟨rs, Hl.out, Hc.out, Hr.out⟩ FF.out);clear V0 Hc Hr V0c Fd If;have VB :=Lh (fun w' (hb : Below wr.heap.size wr w') => VA.out.keep hb);refine E8 32 [(31, false, 0)] []
    [Fct.num [] 4 [tq n3 r, tq n4 r, tq n5 r]]
    1 rfl (by kernel_rfl) rfl ⟨?_, trivial⟩
    (fun val => ⟨#[Ja #[Ji .i8 n0, Ji .i8 n1, Ji .i8 n2, Ji .i8 n3, Ji .i8 n4, Ji .i8 n5, Ji .u8 d], Ji Jl 3, Jp (Jo ⟨w.heap.size, 0, Jn⟩), undef, Jp (Jo ⟨w.heap.size + 1, 0, Jn⟩), Jp (Jo ⟨w.heap.size + 1 + 1, 0, Jn⟩), Ji Jl 3, Ji Jl 3, .bool false, u9, u10, u11, u12, u13, u14, u15, u16, u17, u18, u19, u20, u21, u22, u23, u24, u25, u26, u27, u28, u29, u30, val 31], []⟩) (fun val => by kernel_rfl) (fun val v hB hF => ⟨?_⟩)
   ·exact E7 VB.out (.env rfl (by kernel_rfl)) rfl rfl rfl (by kernel_rfl) (by kernel_rfl)
   ·have hx :=hF 0 _ rfl;clear hF;refine Fr (n :=12) (Hz.out.keep hB) hx rfl rfl rfl rfl rfl (by kernel_rfl) (by kernel_rfl) (fun v2 hW hV => ?_);have Kf :=hW.below (show w.heap.size <= w.heap.size + 1 by omega) (Hb.out.trans (hB.mono Hb.out.size));clear hB VA VB Hz Hb G hx hW;go_wp2_with fail
    exact Fu (n :=12) hV Kf rfl rfl (by kernel_rfl) (by kernel_rfl) rfl
set_option maxRecDepth 100000 in
set_option maxHeartbeats 16000000 in
theorem c_of{n0 n1 n2 n3 n4 n5 d r : Int}{w : JW}(hs : S6 n0 n1 n2 n3 n4 n5 d r)(hg : Good w) :
  Calls Tryz.prog 21 #[Ja #[Ji .i8 n0, Ji .i8 n1, Ji .i8 n2, Ji .i8 n3, Ji .i8 n4, Ji .i8 n5, Ji .u8 d]] w (Ret w (Fct.num [] 4 [tq n0 r, tq n1 r, tq n2 r, tq n3 r, tq n4 r, tq n5 r])) :=by
 have k0 :=(M4 w.heap.size w).alloc (M7 _) (Jc #[Ji .i8 n0, Ji .i8 n1, Ji .i8 n2, Ji .i8 n3, Ji .i8 n4, Ji .i8 n5, Ji .u8 d] 53);have k1 :=k0.alloc (by simp) (Jc #[M1 Jl 0, Jp Jn, Ji Jl 0, Jp Jn, Ji Jl 0, Jp Jn, Ji Jl 0, Jp Jn, Ji Jl 0, Jp Jn, Ji Jl 0, Jp Jn, Ji Jl 0, Jp Jn, Ji Jl 0, Jp Jn, Ji Jl 0, Jp Jn, Ji Jl 0, Jp Jn, Ji Jl 0, Jp Jn, Ji Jl 0, Jp Jn] 37);have V0 :=Jh.new w #[Ji .i8 n0, Ji .i8 n1, Ji .i8 n2, Ji .i8 n3, Ji .i8 n4, Ji .i8 n5, Ji .u8 d] 53;have V1 :=Jh.new (w.alloc (Jc #[Ji .i8 n0, Ji .i8 n1, Ji .i8 n2, Ji .i8 n3, Ji .i8 n4, Ji .i8 n5, Ji .u8 d] 53)) #[M1 Jl 0, Jp Jn, Ji Jl 0, Jp Jn, Ji Jl 0, Jp Jn, Ji Jl 0, Jp Jn, Ji Jl 0, Jp Jn, Ji Jl 0, Jp Jn, Ji Jl 0, Jp Jn, Ji Jl 0, Jp Jn, Ji Jl 0, Jp Jn, Ji Jl 0, Jp Jn, Ji Jl 0, Jp Jn, Ji Jl 0, Jp Jn] 37;have j1 :=(M4 (w.alloc (Jc #[Ji .i8 n0, Ji .i8 n1, Ji .i8 n2, Ji .i8 n3, Ji .i8 n4, Ji .i8 n5, Ji .u8 d] 53)).heap.size (w.alloc (Jc #[Ji .i8 n0, Ji .i8 n1, Ji .i8 n2, Ji .i8 n3, Ji .i8 n4, Ji .i8 n5, Ji .u8 d] 53))).alloc (M7 _) (Jc #[M1 Jl 0, Jp Jn, Ji Jl 0, Jp Jn, Ji Jl 0, Jp Jn, Ji Jl 0, Jp Jn, Ji Jl 0, Jp Jn, Ji Jl 0, Jp Jn, Ji Jl 0, Jp Jn, Ji Jl 0, Jp Jn, Ji Jl 0, Jp Jn, Ji Jl 0, Jp Jn, Ji Jl 0, Jp Jn, Ji Jl 0, Jp Jn] 37);replace V0 :=(V0.keep j1);simp only[My]at V0 V1;obtain⟨W, hW⟩ : ∃W, (w.alloc (Jc #[Ji .i8 n0, Ji .i8 n1, Ji .i8 n2, Ji .i8 n3, Ji .i8 n4, Ji .i8 n5, Ji .u8 d] 53)).alloc (Jc #[M1 Jl 0, Jp Jn, Ji Jl 0, Jp Jn, Ji Jl 0, Jp Jn, Ji Jl 0, Jp Jn, Ji Jl 0, Jp Jn, Ji Jl 0, Jp Jn, Ji Jl 0, Jp Jn, Ji Jl 0, Jp Jn, Ji Jl 0, Jp Jn, Ji Jl 0, Jp Jn, Ji Jl 0, Jp Jn, Ji Jl 0, Jp Jn] 37) =W :=⟨_, rfl⟩
 rw[hW]at k1 V0 V1;replace V0 :=Lh (fun w' (hb : Below W.heap.size W w') => (V0.keep hb));replace V1 :=Lh V1;have K :=Lh k1;have G :=Lh (fun w' (hb : Below W.heap.size W w') => hg.below (k1.trans (hb.mono k1.size)));clear hg k0 k1 j1;go_enter Tryz.func21, Tryz.ntmps21;go_upto_region 1 with fail
 try simp only[hW]
 clear hW;refine Fy 8 [(3, false, 0), (4, false, 0), (5, false, 0), (6, false, 0), (7, false, 0)] []
  [Fct.val (Ja #[Ji .i8 n0, Ji .i8 n1, Ji .i8 n2, Ji .i8 n3, Ji .i8 n4, Ji .i8 n5, Ji .u8 d]), Fct.num [] 4 [tq n0 r, tq n1 r, tq n2 r], Fct.val (Ja #[Ji .i8 n0, Ji .i8 n1, Ji .i8 n2, Ji .i8 n3, Ji .i8 n4, Ji .i8 n5, Ji .u8 d]), Fct.num [] 4 [tq n3 r, tq n4 r, tq n5 r], Fct.num [] 4 [tq n0 r, tq n1 r, tq n2 r, tq n3 r, tq n4 r, tq n5 r]]
  #[true, true, true, true, true, false] 1 rfl (by kernel_rfl) rfl (by kernel_rfl) ⟨?_, ?_, ?_, ?_, ?_, trivial⟩
  (fun val => ⟨#[Ja #[Ji .i8 n0, Ji .i8 n1, Ji .i8 n2, Ji .i8 n3, Ji .i8 n4, Ji .i8 n5, Ji .u8 d], Jp (Jo ⟨w.heap.size, 0, Jn⟩), Jp (Jo ⟨w.heap.size + 1, 0, Jn⟩), val 3, val 4, val 5, val 6, val 7], []⟩) (fun val => by kernel_rfl) (fun val v hB hF => ⟨?_⟩)
 ·exact Fk 7 V0.out (.env rfl (by kernel_rfl)) rfl rfl rfl (by kernel_rfl) (by kernel_rfl) rfl (by kernel_rfl)
 ·exact EZ cf27 rfl rfl rfl rfl rfl (by kernel_rfl) (fun a v hB hE hD => (show Calls _ _ #[Act.at_ a 3, Ji Jl 0] v _ from by rw[show Act.at_ a 3 =_ from hD 0 _ (by kernel_rfl) rfl];exact FV hs (G.out v hB)))
 ·exact Fk 7 V0.out (.env rfl (by kernel_rfl)) rfl rfl rfl (by kernel_rfl) (by kernel_rfl) rfl (by kernel_rfl)
 ·exact EZ cf27 rfl rfl rfl rfl rfl (by kernel_rfl) (fun a v hB hE hD => (show Calls _ _ #[Act.at_ a 5, Ji Jl 3] v _ from by rw[show Act.at_ a 5 =_ from hD 2 _ (by kernel_rfl) rfl];exact FU hs (G.out v hB)))
 ·exact FD 1 3 rfl rfl rfl rfl rfl FH (by kernel_rfl) rfl (by kernel_rfl)
 ·have hx :=hF 4 _ rfl;clear hF;refine Fr (n :=24) (V1.out.keep hB) hx rfl rfl rfl rfl rfl (by kernel_rfl) (by kernel_rfl) (fun v2 hW hV => ?_);have Kf :=hW.below (show w.heap.size <= w.heap.size + 1 by omega) (K.out.trans (hB.mono K.out.size));clear K hB V0 V1 G hx hW;go_wp2_with fail
  exact Fu (n :=24) hV Kf rfl rfl (by kernel_rfl) (by kernel_rfl) rfl
