/- The primitive multiple of small twists: mathematics. -/
import Derived.Test.YthhobhjcnmmipaaGreatDoorSTwq
namespace Go.Proofs.YthhobhjcnmmipaaGreatDoor
open _root_.Nat renaming gcd→M0,gcd_dvd_right→M1,gcd_dvd_left→M2,gcd_pos_of_pos_right→M3,mul_comm→M4
open Go.RowKit
def gK(m : Nat -> Nat) : Nat -> Nat
 | 0 => 0
 | k + 1 => M0 (gK m k) (m k)
theorem NX{a b c d : Nat}(hab : Nat.Coprime a b)(hcd : Nat.Coprime c d) : M0 (a * d) (c * b) =M0 a c * M0 b d :=by
 apply Nat.dvd_antisymm
 ·have g1 : M0 (a * d) (c * b)∣a * d :=M2 _ _;have g2 : M0 (a * d) (c * b)∣c * b :=M1 _ _;generalize M0 (a * d) (c * b) =g at g1 g2;have h1 : g∣M0 g a * M0 g d :=Nat.dvd_trans (Nat.dvd_gcd (Nat.dvd_refl g) g1) (Nat.gcd_mul_right_dvd_mul_gcd g a d);have h2 : g∣M0 g c * M0 g b :=Nat.dvd_trans (Nat.dvd_gcd (Nat.dvd_refl g) g2) (Nat.gcd_mul_right_dvd_mul_gcd g c b);have xt : Nat.Coprime (M0 g a) (M0 g b) :=Nat.Coprime.coprime_dvd_left (M1 g a) (Nat.Coprime.coprime_dvd_right (M1 g b) hab);have yz : Nat.Coprime (M0 g d) (M0 g c) :=Nat.Coprime.coprime_dvd_left (M1 g d) (Nat.Coprime.coprime_dvd_right (M1 g c) hcd.symm);have hx : M0 g a∣M0 g c :=xt.dvd_of_dvd_mul_right (Nat.dvd_trans (M2 g a) h2);have hy : M0 g d∣M0 g b :=yz.dvd_of_dvd_mul_left (Nat.dvd_trans (M2 g d) h2);exact Nat.dvd_trans h1 (Nat.mul_dvd_mul (Nat.dvd_gcd (M1 g a) (Nat.dvd_trans hx (M1 g c))) (Nat.dvd_gcd (Nat.dvd_trans hy (M1 g b)) (M1 g d)))
 ·exact Nat.dvd_gcd (Nat.mul_dvd_mul (M2 a c) (M1 b d)) (Nat.mul_dvd_mul (M1 a c) (M2 b d))
theorem NM(q : Rat) : q * ((q.den : Int) : Rat) =((q.num : Int) : Rat) :=by
 have hd : ((q.den : Int) : Rat) ≠ 0 :=by
  have :=q.den_pos;intro e;have :=Rat.intCast_inj.1 (show((q.den : Int) : Rat) =((0 : Int) : Rat)from e);omega
 have h : ((q.num : Int) : Rat)/((q.den : Int) : Rat) =q :=by rw[←Rat.divInt_eq_div];exact Rat.num_divInt_den q
 calc q * ((q.den : Int) : Rat) =((q.num : Int) : Rat)/((q.den : Int) : Rat) * ((q.den : Int) : Rat) :=by rw[h]
  _ =((q.num : Int) : Rat) :=Rat.div_mul_cancel hd
theorem NP{D : Nat}(f : Nat -> Rat)(m : Nat -> Nat)(hm : ∀k, D * (f k).num.natAbs =(f k).den * m k) : ∀k, D * ovK f k =unK f k * gK m k /\ Nat.Coprime (ovK f k) (unK f k)
 | 0 => ⟨rfl, by show M0 0 1 =1;decide⟩
 | k + 1 => by
  obtain⟨h, hc⟩ :=NP f m hm k;have hk :=hm k;have hr : Nat.Coprime (f k).num.natAbs (f k).den :=(f k).reduced;obtain⟨G, hG⟩ : ∃G, ovK f k =G :=⟨_, rfl⟩;obtain⟨L, hL⟩ : ∃L, unK f k =L :=⟨_, rfl⟩;obtain⟨n, hn⟩ : ∃n, (f k).num.natAbs =n :=⟨_, rfl⟩;obtain⟨d, hd⟩ : ∃d, (f k).den =d :=⟨_, rfl⟩;obtain⟨g, hg⟩ : ∃g, gK m k =g :=⟨_, rfl⟩;have hd0 : 0 < d :=hd ▸ (f k).den_pos;have e1 : ovK f (k + 1) =M0 G n :=by unfold ovK;rw[hG, hn]
  have e2 : unK f (k + 1) =L * (d/M0 L d) :=by unfold unK;rw[hL, hd]
  have e3 : gK m (k + 1) =M0 g (m k) :=by unfold gK;rw[hg]
  rw[hG, hL]at hc;rw[hG, hL, hg]at h;rw[hn, hd]at hk hr;rw[e1, e2, e3];have c0 : 0 < M0 L d :=M3 _ hd0;have hdiv : M0 L d * (d/M0 L d) =d :=Nat.mul_div_cancel' (M1 L d);have hF :=NX hc hr;constructor
  ·apply Nat.eq_of_mul_eq_mul_right c0;have a1 : L * (d/M0 L d) * M0 g (m k) * M0 L d =L * d * M0 g (m k) :=by
    calc _ =L * (M0 L d * (d/M0 L d)) * M0 g (m k) :=by ac_rfl
     _ =_ :=by rw[hdiv]
   have s1 : L * d * g =D * (G * d) :=by rw[show L * d * g =L * g * d by ac_rfl, ←h];ac_rfl
   have s2 : L * d * m k =D * (n * L) :=by rw[show L * d * m k =d * m k * L by ac_rfl, ←hk];ac_rfl
   have s3 : L * d * M0 g (m k) =D * (M0 G n * M0 L d) :=by rw[←Nat.gcd_mul_left, s1, s2, Nat.gcd_mul_left, hF]
   rw[a1, s3]
   ac_rfl
  ·have k1 : Nat.Coprime (M0 G n) L :=Nat.Coprime.coprime_dvd_left (M2 _ _) hc;have k2 : Nat.Coprime (M0 G n) (d/M0 L d) :=Nat.Coprime.coprime_dvd_right ⟨M0 L d, by rw[M4];exact hdiv.symm⟩ (Nat.Coprime.coprime_dvd_left (M1 _ _) hr);exact Nat.Coprime.mul_right k1 k2
theorem Ml{n r : Int}(h0 : 0 <= r) : (1 + r).toNat * (tq n r).num.natAbs =(tq n r).den * n.natAbs :=by
 have hD : ((1 + r : Int) : Rat) ≠ 0 :=by
  intro e;have :=Rat.intCast_eq_zero_iff.1 e;omega
 have e1 : tq n r * ((1 + r : Int) : Rat) =((n : Int) : Rat) :=by unfold tq;rw[Rat.div_mul_cancel hD]
 have e2 : ((tq n r).num : Rat) =tq n r * (((tq n r).den : Int) : Rat) :=by
  exact(NM _).symm
 have e3 : (((tq n r).num * (1 + r) : Int) : Rat) =((n * ((tq n r).den : Int) : Int) : Rat) :=by
  rw[Rat.intCast_mul, Rat.intCast_mul, e2, ←e1]
  grind
 have e4 :=Rat.intCast_inj.1 e3;have e5 :=congrArg Int.natAbs e4;rw[Int.natAbs_mul, Int.natAbs_mul, Int.natAbs_natCast]at e5;rw[show(1 + r).toNat =(1 + r).natAbs by omega, M4, e5, M4]
theorem NU(m : Nat -> Nat) : ∀(K k : Nat), k < K -> gK m K∣m k
 | 0, k, h => absurd h (Nat.not_lt_zero _)
 | K + 1, k, h => by
  unfold gK;rcases Nat.lt_or_ge k K with h1|h1
  ·exact Nat.dvd_trans (M2 _ _) (NU m K k h1)
  ·obtain rfl : k =K :=by omega
   exact M1 _ _
theorem NY{U O D g t n : Rat}(hO : O ≠ 0)(hD : D ≠ 0)(h : U * g =D * O)(hn : n =t * g) : U/O * (n/D) =t :=by
 rw[Rat.div_def, Rat.div_def];have h1 :=Rat.mul_inv_cancel O hO;have h2 :=Rat.mul_inv_cancel D hD;generalize O⁻¹ =o at h1 ⊢;generalize D⁻¹ =d at h2 ⊢
 grind
def i6(n0 n1 n2 n3 n4 n5 : Int) : Nat -> Int
 | 0 => n0
 | 1 => n1
 | 2 => n2
 | 3 => n3
 | 4 => n4
 | _ => n5
theorem Mu(n0 n1 n2 n3 n4 n5 r : Int) : ∀k, f6 (tq n0 r) (tq n1 r) (tq n2 r) (tq n3 r) (tq n4 r) (tq n5 r) k =tq (i6 n0 n1 n2 n3 n4 n5 k) r
 | 0 => rfl
 | 1 => rfl
 | 2 => rfl
 | 3 => rfl
 | 4 => rfl
 | _ + 5 => rfl
theorem NS{n : Nat}(h : n ≠ 0) : (((n : Nat) : Int) : Rat) ≠ 0 :=fun e => by
 have :=Rat.intCast_eq_zero_iff.1 e;omega
theorem NN(f : Nat -> Rat) : ∀k, 0 < unK f k
 | 0 => Nat.one_pos
 | k + 1 => Nat.mul_pos (NN f k) (Nat.div_pos (Nat.gcd_le_right _ (f k).den_pos) (M3 _ (f k).den_pos))
theorem Mc{n0 n1 n2 n3 n4 n5 r : Int}(h0 : 0 <= r){g : Nat}(hg : gK (fun k => (i6 n0 n1 n2 n3 n4 n5 k).natAbs) 6 =g)(hg0 : g ≠ 0) :
  ovK (f6 (tq n0 r) (tq n1 r) (tq n2 r) (tq n3 r) (tq n4 r) (tq n5 r)) 6 ≠ 0 /\ ∀k, k < 6 -> Rat.divInt ((unK (f6 (tq n0 r) (tq n1 r) (tq n2 r) (tq n3 r) (tq n4 r) (tq n5 r)) 6 : Nat) : Int) ((ovK (f6 (tq n0 r) (tq n1 r) (tq n2 r) (tq n3 r) (tq n4 r) (tq n5 r)) 6 : Nat) : Int) * tq (i6 n0 n1 n2 n3 n4 n5 k) r =((((i6 n0 n1 n2 n3 n4 n5 k).tdiv (g : Int) : Int)) : Rat) :=by
 have hf :=Mu n0 n1 n2 n3 n4 n5 r;generalize f6 (tq n0 r) (tq n1 r) (tq n2 r) (tq n3 r) (tq n4 r) (tq n5 r) =f at hf ⊢;have hm : ∀k, (1 + r).toNat * (f k).num.natAbs =(f k).den * (i6 n0 n1 n2 n3 n4 n5 k).natAbs :=fun k => by rw[hf k];exact Ml h0
 have hk :=(NP f (fun k => (i6 n0 n1 n2 n3 n4 n5 k).natAbs) hm 6).1;rw[hg]at hk;have hu :=NN f 6;have ho : ovK f 6 ≠ 0 :=fun e => by
  rw[e, Nat.mul_zero]at hk;rcases Nat.mul_eq_zero.1 hk.symm with h|h
  ·omega
  ·exact hg0 h
 refine⟨ho, fun k hk6 => ?_⟩;have hd : (g : Int)∣i6 n0 n1 n2 n3 n4 n5 k :=by
  rw[←hg];exact Int.ofNat_dvd_left.2 (NU (fun k => (i6 n0 n1 n2 n3 n4 n5 k).natAbs) 6 k hk6)
 have hn :=Int.tdiv_mul_cancel hd;rw[Rat.divInt_eq_div];unfold tq;refine NY (NS ho) ?_ (g :=(((g : Nat) : Int) : Rat)) ?_ ?_
 ·intro e;have :=Rat.intCast_eq_zero_iff.1 e;omega
 ·rw[←Rat.intCast_mul, ←Rat.intCast_mul]
  congr 1
  have : ((((1 + r).toNat * ovK f 6 : Nat)) : Int) =((unK f 6 * g : Nat) : Int) :=by rw[hk]
  rw[Int.natCast_mul, Int.natCast_mul, show(((1 + r).toNat : Nat) : Int) =1 + r by omega]at this;exact this.symm
 ·rw[←Rat.intCast_mul, hn]
