/- The simplest fraction between two: between. -/
import Derived.Test.YtbpbfjnndkoioaaGreatDoorRatU
import Derived.Test.YtbpbfjnndkoioaaGreatDoorReg
namespace Go.Proofs.YtbpbfjnndkoioaaGreatDoor
open Go.RowKit

/-- The simplest fraction n / k from a / b to c / d: no fraction there has a lesser numerator or a lesser denominator. -/
structure Best (a b c d n k : Nat) : Prop where
  n0 : 0 < n
  k0 : 0 < k
  cop : Nat.gcd n k = 1
  lo : a * k ≤ n * b
  hi : n * d ≤ c * k
  least : ∀ n' k' : Nat, 0 < k' → a * k' ≤ n' * b → n' * d ≤ c * k' → n ≤ n' ∧ k ≤ k'
theorem best_whole {a b c d e : Nat} (hb : 0 < b) (ha : 0 < a) (he : a = e * b) (hle : a * d ≤ c * b) : Best a b c d e 1 := by
  have he0 : 0 < e := by
    rcases Nat.eq_zero_or_pos e with h | h
    · rw [h] at he; omega
    · exact h
  refine ⟨he0, by decide, Nat.gcd_one_right _, by omega, ?_, fun n' k' hk h1 _ => ⟨?_, hk⟩⟩
  · have h : (e * d) * b ≤ (c * 1) * b := by
      rw [Nat.mul_one, Nat.mul_right_comm, ← he]; exact hle
    exact Nat.le_of_mul_le_mul_right h hb
  · have h : (e * k') * b ≤ n' * b := by rw [Nat.mul_right_comm, ← he]; exact h1
    have h2 := Nat.le_of_mul_le_mul_right h hb
    exact Nat.le_trans (Nat.le_mul_of_pos_right e hk) h2
theorem best_next {a b c d e r : Nat} (_hb : 0 < b) (he : a = e * b + r) (hr : 0 < r) (hrb : r < b) (h : (e + 1) * d ≤ c) : Best a b c d (e + 1) 1 := by
  refine ⟨by omega, by decide, Nat.gcd_one_right _, ?_, by omega, fun n' k' hk h1 _ => ⟨?_, hk⟩⟩
  · rw [Nat.mul_one, he, Nat.succ_mul]; omega
  · rcases Nat.lt_or_ge e n' with h2 | h2
    · exact h2
    · exfalso
      have h3 : n' * b ≤ e * b := Nat.mul_le_mul_right b h2
      have h4 : a * 1 ≤ a * k' := Nat.mul_le_mul_left a hk
      omega
theorem best_step {a b c d e r s n k : Nat} (he : a = e * b + r) (hs : c = e * d + s) (_hrb : r < b) (_hsd : s < d) (hr : 0 < r) (h : Best d s b r n k) : Best a b c d (e * n + k) n := by
  refine ⟨by have := h.k0; omega, h.n0, ?_, ?_, ?_, fun n' k' hk h1 h2 => ?_⟩
  · rw [Nat.gcd_comm, Nat.mul_comm, Nat.gcd_mul_left_add_right]
    exact h.cop
  · have h3 := h.hi
    rw [he, Nat.add_mul, Nat.add_mul, Nat.mul_right_comm e b n]
    have e1 : r * n = n * r := Nat.mul_comm _ _
    have e2 : b * k = k * b := Nat.mul_comm _ _
    omega
  · have h3 := h.lo
    rw [hs, Nat.add_mul, Nat.add_mul, Nat.mul_right_comm e d n]
    have e1 : d * k = k * d := Nat.mul_comm _ _
    have e2 : s * n = n * s := Nat.mul_comm _ _
    omega
  · -- the rest of n' / k'
    have hlt : e * k' < n' := by
      rcases Nat.lt_or_ge (e * k') n' with h3 | h3
      · exact h3
      · exfalso
        have h4 : n' * b ≤ e * k' * b := Nat.mul_le_mul_right b h3
        have h5 : a * k' = e * k' * b + r * k' := by rw [he, Nat.add_mul, Nat.mul_right_comm]
        have h6 : 0 < r * k' := Nat.mul_pos hr hk
        omega
    obtain ⟨m, hm⟩ : ∃ m, n' = e * k' + m := ⟨n' - e * k', by omega⟩
    have hm0 : 0 < m := by omega
    have g1 : d * m ≤ k' * s := by
      rw [hm, hs, Nat.add_mul, Nat.add_mul, Nat.mul_right_comm e k' d] at h2
      have e1 : d * m = m * d := Nat.mul_comm _ _
      have e2 : k' * s = s * k' := Nat.mul_comm _ _
      omega
    have g2 : k' * r ≤ b * m := by
      rw [hm, he, Nat.add_mul, Nat.add_mul, Nat.mul_right_comm e k' b] at h1
      have e1 : k' * r = r * k' := Nat.mul_comm _ _
      have e2 : b * m = m * b := Nat.mul_comm _ _
      omega
    obtain ⟨l1, l2⟩ := h.least k' m hm0 g1 g2
    refine ⟨?_, l1⟩
    have := Nat.mul_le_mul_left e l1
    omega
theorem dm_nat {A B : Nat} (hB : 0 < B) {q r : Int} (h : DM (A : Int) (B : Int) q r) : q = ((A / B : Nat) : Int) ∧ r = ((A % B : Nat) : Int) := by
  have h1 := Nat.div_add_mod A B
  have h2 := Nat.mod_lt A hB
  refine dm_unique h ⟨?_, .inl ⟨by omega, by omega⟩⟩
  rw [← Int.natCast_mul, Nat.mul_comm]
  omega
/-- What between returns. -/
def BtwPost (a b c d : Nat) (w : World) (e : Ending) (w' : World) : Prop :=
  ∃ (n k : Nat) (x : Int) (X : Option Addr) (y : Int) (Y : Option Addr), e = .returned (.tuple #[.agg #[.int .i64 x, .pointer X], .agg #[.int .i64 y, .pointer Y]]) ∧ IsInt 0 w' (.agg #[.int .i64 x, .pointer X]) (n : Int) ∧ IsInt 0 w' (.agg #[.int .i64 y, .pointer Y]) (k : Int) ∧ Best a b c d n k ∧ Below w.heap.size w w'
theorem nat47 {n : Nat} (h : n < base 47) : ((n : Nat) : Int).natAbs < base 390 := by rw [Int.natAbs_natCast]; exact base_up h (by decide)
theorem div47 {a b : Nat} (h : a < base 47) : a / b < base 47 := Nat.lt_of_le_of_lt (Nat.div_le_self _ _) h
set_option maxRecDepth 100000 in
set_option maxHeartbeats 16000000 in
theorem between_any : ∀ (m : Nat) (a b c d : Nat) (x0 : Int) (X0 : Option Addr) (x1 : Int) (X1 : Option Addr) (x2 : Int) (X2 : Option Addr) (x3 : Int) (X3 : Option Addr) (w : World), b + d < m → 0 < a → 0 < b → 0 < d → a * d ≤ c * b → a < base 47 → b < base 47 → c < base 47 → d < base 47 →
    IsInt 0 w (.agg #[.int .i64 x0, .pointer X0]) (a : Int) → IsInt 0 w (.agg #[.int .i64 x1, .pointer X1]) (b : Int) → IsInt 0 w (.agg #[.int .i64 x2, .pointer X2]) (c : Int) → IsInt 0 w (.agg #[.int .i64 x3, .pointer X3]) (d : Int) →
    Calls Tryz.prog 52 #[.agg #[.int .i64 x0, .pointer X0], .agg #[.int .i64 x1, .pointer X1], .agg #[.int .i64 x2, .pointer X2], .agg #[.int .i64 x3, .pointer X3]] w (BtwPost a b c d w) := by
  intro m
  induction m with
  | zero => intro a b c d _ _ _ _ _ _ _ _ _ hm; omega
  | succ m ih =>
    intro a b c d x0 X0 x1 X1 x2 X2 x3 X3 w hm ha hb hd hle la lb lc ld h0 h1 h2 h3
    have IH := Lib.hid ih
    clear ih
    have k1 := (Below.refl w.heap.size w).alloc (Nat.le_refl _) (.cells #[.int .i64 x0, .pointer X0] 26)
    have k2 := k1.alloc (by simp) (.cells #[.int .i64 x1, .pointer X1] 26)
    have k3 := k2.alloc (by simp; omega) (.cells #[.int .i64 x2, .pointer X2] 26)
    have k4 := k3.alloc (by simp; omega) (.cells #[.int .i64 x3, .pointer X3] 26)
    have k5 := k4.alloc (by simp; omega) (.cells #[.int .i64 0, .pointer none] 26)
    have k6 := k5.alloc (by simp; omega) (.cells #[.int .i64 0, .pointer none] 26)
    have V4 := Lib.hid ((((((Var.new h0).grow (.cells #[.int .i64 x1, .pointer X1] 26)).grow (.cells #[.int .i64 x2, .pointer X2] 26)).grow (.cells #[.int .i64 x3, .pointer X3] 26)).grow (.cells #[.int .i64 0, .pointer none] 26)).grow (.cells #[.int .i64 0, .pointer none] 26))
    have V5 := Lib.hid (((((Var.new (h1.keep k1)).grow (.cells #[.int .i64 x2, .pointer X2] 26)).grow (.cells #[.int .i64 x3, .pointer X3] 26)).grow (.cells #[.int .i64 0, .pointer none] 26)).grow (.cells #[.int .i64 0, .pointer none] 26))
    have V6 := Lib.hid ((((Var.new (h2.keep k2)).grow (.cells #[.int .i64 x3, .pointer X3] 26)).grow (.cells #[.int .i64 0, .pointer none] 26)).grow (.cells #[.int .i64 0, .pointer none] 26))
    have V7 := Lib.hid (((Var.new (h3.keep k3)).grow (.cells #[.int .i64 0, .pointer none] 26)).grow (.cells #[.int .i64 0, .pointer none] 26))
    have R8 := Lib.hid ((Hold.new ((((w.alloc (.cells #[.int .i64 x0, .pointer X0] 26)).alloc (.cells #[.int .i64 x1, .pointer X1] 26)).alloc (.cells #[.int .i64 x2, .pointer X2] 26)).alloc (.cells #[.int .i64 x3, .pointer X3] 26)) 0 none).grow (.cells #[.int .i64 0, .pointer none] 26))
    have R9 := Lib.hid (Hold.new (((((w.alloc (.cells #[.int .i64 x0, .pointer X0] 26)).alloc (.cells #[.int .i64 x1, .pointer X1] 26)).alloc (.cells #[.int .i64 x2, .pointer X2] 26)).alloc (.cells #[.int .i64 x3, .pointer X3] 26)).alloc (.cells #[.int .i64 0, .pointer none] 26)) 0 none)
    simp only [World.size_alloc] at V5 V6 V7 R8 R9
    obtain ⟨wm, hwm⟩ : ∃ x, ((((((w.alloc (.cells #[.int .i64 x0, .pointer X0] 26)).alloc (.cells #[.int .i64 x1, .pointer X1] 26)).alloc (.cells #[.int .i64 x2, .pointer X2] 26)).alloc (.cells #[.int .i64 x3, .pointer X3] 26)).alloc (.cells #[.int .i64 0, .pointer none] 26)).alloc (.cells #[.int .i64 0, .pointer none] 26)) = x := ⟨_, rfl⟩
    rw [hwm] at V4 V5 V6 V7 R8 R9 k6
    have K := Lib.hid k6
    have HD := Lib.hid (divmod_any x0 x1 X0 X1 (a : Int) (b : Int) wm V4.out.int V5.out.int (by omega) (nat47 la) (nat47 lb))
    have La := Lib.hid la
    have Lb := Lib.hid lb
    have Lc := Lib.hid lc
    have Ld := Lib.hid ld
    have Hle := Lib.hid hle
    clear h0 h1 h2 h3 k1 k2 k3 k4 k5 k6 la lb lc ld hle
    have c0 := V4.out.c0
    have c1 := V4.out.c1
    have d0 := V5.out.c0
    have d1 := V5.out.c1
    go_enter Tryz.func52, Tryz.ntmps52
    go_wp2_with fail
    try simp only [hwm]
    refine HD.out.mono ?_
    rintro e0 n1 ⟨qa, qP, ra, rP, q, r, rfl, hi, hj, hdm, g1⟩
    obtain ⟨rfl, rfl⟩ := dm_nat hb hdm
    have kx := (Below.refl n1.heap.size n1).alloc (Nat.le_refl _) (.cells #[.int .i64 qa, .pointer qP] 26)
    have ky := kx.alloc (by simp) (.cells #[.int .i64 ra, .pointer rP] 26)
    have W10 := Lib.hid ((Var.new hi).grow (.cells #[.int .i64 ra, .pointer rP] 26))
    have W11 := Lib.hid (Var.new (hj.keep kx))
    simp only [World.size_alloc] at W11
    have l10 := (R9.out.keep g1).lt
    replace V4 := Lib.hid ((V4.out.keep g1).keep ky)
    replace V5 := Lib.hid ((V5.out.keep g1).keep ky)
    replace V6 := Lib.hid ((V6.out.keep g1).keep ky)
    replace V7 := Lib.hid ((V7.out.keep g1).keep ky)
    replace R8 := Lib.hid ((R8.out.keep g1).keep ky)
    replace R9 := Lib.hid ((R9.out.keep g1).keep ky)
    replace K := Lib.hid (below_on (below_on K.out g1) ky)
    obtain ⟨wn, hwn⟩ : ∃ x, ((n1.alloc (.cells #[.int .i64 qa, .pointer qP] 26)).alloc (.cells #[.int .i64 ra, .pointer rP] 26)) = x := ⟨_, rfl⟩
    obtain ⟨p10, hp10⟩ : ∃ p, n1.heap.size = p := ⟨_, rfl⟩
    rw [hwn] at W10 W11 V4 V5 V6 V7 R8 R9 K
    rw [hp10] at W10 W11 l10
    clear hi hj hdm g1 kx ky c0 c1 d0 d1 HD
    obtain ⟨e, he⟩ : ∃ e, a / b = e := ⟨_, rfl⟩
    obtain ⟨s, hs⟩ : ∃ s, a % b = s := ⟨_, rfl⟩
    have hsum : a = e * b + s := by rw [← he, ← hs, Nat.mul_comm]; exact (Nat.div_add_mod a b).symm
    have hsb : s < b := by rw [← hs]; exact Nat.mod_lt _ hb
    have Le := Lib.hid (show e < base 47 by rw [← he]; exact div47 La.out)
    rw [he] at W10
    rw [hs] at W11
    clear he hs
    have Hsum := Lib.hid hsum
    have HSg := Lib.hid (signZ_any _ (s : Int) wn W11.out.int)
    have c0 := W11.out.c0
    have c1 := W11.out.c1
    by_cases hs0 : s = 0
    · rw [hs0] at HSg hsum
      rw [show sgn ((0 : Nat) : Int) = 0 from rfl] at HSg
      have Hb := Lib.hid (best_whole hb ha (show a = e * b by omega) Hle.out)
      go_wp2_with fail
      try simp only [hwn, hp10]
      refine HSg.out.mono ?_
      rintro e1 wo ⟨rfl, g1⟩
      replace V4 := Lib.hid (V4.out.keep g1)
      replace V5 := Lib.hid (V5.out.keep g1)
      replace V6 := Lib.hid (V6.out.keep g1)
      replace V7 := Lib.hid (V7.out.keep g1)
      replace R8 := Lib.hid (R8.out.keep g1)
      replace R9 := Lib.hid (R9.out.keep g1)
      replace W10 := Lib.hid (W10.out.keep g1)
      replace W11 := Lib.hid (W11.out.keep g1)
      replace K := Lib.hid (below_on K.out g1)
      clear g1 c0 c1
      have HS := Lib.hid (fun w' (hb : Below wo.heap.size wo w') => (⟨(W10.out.keep hb).c0, (W10.out.keep hb).c1⟩ : w'.cell? ⟨p10, 0, none⟩ = some (.int .i64 qa) ∧ w'.cell? ⟨p10, 1, none⟩ = some (.pointer qP)))
      go_upto_region 3 with fail
      refine Till.begin 2 (fun w' => w'.cell? ⟨p10, 0, none⟩ = some (.int .i64 qa) ∧ w'.cell? ⟨p10, 1, none⟩ = some (.pointer qP)) (by kernel_rfl) (HS.out _ (Below.refl _ _).drew) (fun hH => ?_)
      refine Till.tk 0 2 25 (.agg #[.int .i64 qa, .pointer qP]) hH ?_
      try simp only [Act.put, List.setIfInBounds_toArray, List.set_cons_zero, List.set_cons_succ]
      clear hH
      have B0 := Lib.hid (Below.refl wo.heap.size wo).drew
      generalize wo.drew = v0 at B0 ⊢
      refine Till.phaseP [1] #[true, true, false, false] 2 (fun a0 dn an v => ∃ t1 : Value, an = puts a0 [(26, t1)] ∧ Below wo.heap.size wo v ∧ (dn 1 = true → t1 = .agg #[.int .i64 1, .pointer none])) rfl (by kernel_rfl) (by rintro dn an v ⟨_, rfl, hB, _⟩; exact HS.out _ hB) ⟨_, rfl, B0.out, (fun h => absurd h (by decide))⟩ ⟨⟨_, rfl, ?_⟩, trivial⟩ ?_
      · rintro dn an v ⟨t1, rfl, hB, F1⟩ hi ha K hK
        replace hB := Lib.hid hB
        replace F1 := Lib.hid F1
        clear ha
        refine Pent.mk ?_
        try simp only [puts, Act.put, List.setIfInBounds_toArray, List.set_cons_zero, List.set_cons_succ]
        go_simp
        refine (from_any _ _).mono ?_
        rintro e v1 ⟨rfl, g⟩
        replace g := Lib.hid g
        go_wp2_with fail
        exact hK.out _ _ ⟨.agg #[.int .i64 1, .pointer none], (by kernel_rfl), below_on hB.out g.out, fun _ => rfl⟩
      · rintro dn an v ⟨t1, rfl, hB, F1⟩ hE
        have e1 := F1 (hE 1 (by decide))
        subst e1
        clear hE F1
        replace hB := Lib.hid hB
        refine Pent.mk ?_
        try simp only [puts, Act.put, List.setIfInBounds_toArray, List.set_cons_zero, List.set_cons_succ]
        replace R8 := Lib.hid (R8.out.keep hB.out)
        replace R9 := Lib.hid (R9.out.keep hB.out)
        have r80 := R8.out.c0
        have r81 := R8.out.c1
        have f80 := R8.out.f0
        have f81 := R8.out.f1
        have r90 := R9.out.c0
        have r91 := R9.out.c1
        have f90 := R9.out.f0
        have f91 := R9.out.f1
        refine Till.one (i := 2) (by kernel_rfl) rfl (fun K hK => ?_)
        go_simp
        refine hK.out _ _ (fun h => absurd h (by simp)) ?_
        clear hK K
        try simp only [List.setIfInBounds_toArray, List.set_cons_zero, List.set_cons_succ]
        refine Till.one (i := 3) (by kernel_rfl) rfl (fun K hK => ?_)
        go_simp
        refine hK.out _ _ (fun h => absurd h (by simp)) ?_
        clear hK K
        try simp only [List.setIfInBounds_toArray, List.set_cons_zero, List.set_cons_succ]
        refine Till.done (by kernel_rfl) ?_ _
        have Hx := Lib.hid (((W10.out.keep hB.out).int.held R8.out (.int .i64 qa) (.pointer qP)).held (R9.out.other (show w.heap.size + 1 + 1 + 1 + 1 + 1 ≠ w.heap.size + 1 + 1 + 1 + 1 by omega) (.int .i64 qa) (.pointer qP)) (.int .i64 1) (.pointer none))
        have Kf := Lib.hid (below_stored (below_stored (below_on K.out hB.out) (show w.heap.size ≤ w.heap.size + 1 + 1 + 1 + 1 by omega) (.int .i64 qa) (.pointer qP)) (show w.heap.size ≤ w.heap.size + 1 + 1 + 1 + 1 + 1 by omega) (.int .i64 1) (.pointer none))
        go_wp2
        exact bodyPost_ret (v := .tuple #[.agg #[.int .i64 qa, .pointer qP], .agg #[.int .i64 1, .pointer none]]) (by simp [results, Tryz.results52, go_sem, r80, r81, r90, r91]) rfl ⟨e, 1, qa, qP, 1, none, rfl, Hx.out, small_int ⟨by decide, by decide⟩, Hb.out, Kf.out⟩
    · have hs1 : 0 < s := Nat.pos_of_ne_zero hs0
      rw [show sgn ((s : Nat) : Int) = 1 by unfold sgn; rw [if_neg (by omega), if_pos (by omega)]] at HSg
      go_wp2_with fail
      try simp only [hwn, hp10]
      refine HSg.out.mono ?_
      rintro e1 wo ⟨rfl, g1⟩
      replace V4 := Lib.hid (V4.out.keep g1)
      replace V5 := Lib.hid (V5.out.keep g1)
      replace V6 := Lib.hid (V6.out.keep g1)
      replace V7 := Lib.hid (V7.out.keep g1)
      replace R8 := Lib.hid (R8.out.keep g1)
      replace R9 := Lib.hid (R9.out.keep g1)
      replace W10 := Lib.hid (W10.out.keep g1)
      replace W11 := Lib.hid (W11.out.keep g1)
      replace K := Lib.hid (below_on K.out g1)
      clear g1 c0 c1
      have HAd := Lib.hid (fun v (hb : Below wo.heap.size wo v) => add_any qa 1 qP none (e : Int) 1 v (W10.out.keep hb).int (small_int ⟨by decide, by decide⟩) (base_up (nat47 Le.out) (by decide)) (by decide +kernel))
      have HS := Lib.hid (fun w' (hb : Below wo.heap.size wo w') => (⟨(W10.out.keep hb).c0, (W10.out.keep hb).c1⟩ : w'.cell? ⟨p10, 0, none⟩ = some (.int .i64 qa) ∧ w'.cell? ⟨p10, 1, none⟩ = some (.pointer qP)))
      go_upto_region 4 with fail
      go_cut [13] (fun s wx => ∃ (p1 : Nat) (x : Int) (X : Option Addr), s = .pointer (some ⟨p1, 0, none⟩) ∧ Var wx p1 x X ((e : Int) + 1) ∧ wo.heap.size ≤ p1 ∧ Below wo.heap.size wo wx)
      case first =>
        refine Till.begin 4 (fun w' => w'.cell? ⟨p10, 0, none⟩ = some (.int .i64 qa) ∧ w'.cell? ⟨p10, 1, none⟩ = some (.pointer qP)) (by kernel_rfl) (HS.out _ (Below.refl _ _).drew) (fun hH => ?_)
        refine Till.tk 0 2 27 (.agg #[.int .i64 qa, .pointer qP]) hH ?_
        try simp only [Act.put, List.setIfInBounds_toArray, List.set_cons_zero, List.set_cons_succ]
        clear hH
        have B0 := Lib.hid (Below.refl wo.heap.size wo).drew
        generalize wo.drew = v0 at B0 ⊢
        refine Till.phaseP [1, 2, 3] #[true, true, true, true, false] 1 (fun a0 dn an v => ∃ t1 t2 t3 : Value, an = puts a0 [(28, t1), (29, t2), (13, t3)] ∧ Below wo.heap.size wo v ∧ (dn 1 = true → t1 = .agg #[.int .i64 1, .pointer none]) ∧ (dn 2 = true → IntAt v t2 ((e : Int) + 1)) ∧ (dn 3 = true → PtrI wo.heap.size v t3)) rfl (by kernel_rfl) (by rintro dn an v ⟨_, _, _, rfl, hB, _⟩; exact HS.out _ hB) ⟨_, _, _, rfl, B0.out, (fun h => absurd h (by decide)), (fun h => absurd h (by decide)), (fun h => absurd h (by decide))⟩ ⟨⟨_, rfl, ?_⟩, ⟨_, rfl, ?_⟩, ⟨_, rfl, ?_⟩, trivial⟩ ?_
        · rintro dn an v ⟨t1, t2, t3, rfl, hB, F1, F2, F3⟩ hi ha K hK
          replace hB := Lib.hid hB
          replace F1 := Lib.hid F1
          replace F2 := Lib.hid F2
          replace F3 := Lib.hid F3
          clear ha
          refine Pent.mk ?_
          try simp only [puts, Act.put, List.setIfInBounds_toArray, List.set_cons_zero, List.set_cons_succ]
          go_simp
          refine (from_any _ _).mono ?_
          rintro e v1 ⟨rfl, g⟩
          replace g := Lib.hid g
          go_wp2_with fail
          exact hK.out _ _ ⟨.agg #[.int .i64 1, .pointer none], t2, t3, (by kernel_rfl), below_on hB.out g.out, fun _ => rfl, fun h => (F2.out h).keep g.out, fun h => (F3.out h).keep g.out⟩
        · rintro dn an v ⟨t1, t2, t3, rfl, hB, F1, F2, F3⟩ hi ha K hK
          have e1 := F1 (ha 1 (by kernel_rfl))
          subst e1
          replace hB := Lib.hid hB
          replace F1 := Lib.hid F1
          replace F2 := Lib.hid F2
          replace F3 := Lib.hid F3
          clear ha
          refine Pent.mk ?_
          try simp only [puts, Act.put, List.setIfInBounds_toArray, List.set_cons_zero, List.set_cons_succ]
          go_simp
          refine (HAd.out _ hB.out).mono ?_
          rintro e v1 ⟨x2, X2, rfl, hx, g⟩
          replace hx := Lib.hid hx
          replace g := Lib.hid g
          go_wp2_with fail
          exact hK.out _ _ ⟨.agg #[.int .i64 1, .pointer none], .agg #[.int .i64 x2, .pointer X2], t3, (by kernel_rfl), below_on hB.out g.out, fun _ => rfl, fun _ => ⟨x2, X2, rfl, hx.out⟩, fun h => (F3.out h).keep g.out⟩
        · rintro dn an v ⟨t1, t2, t3, rfl, hB, F1, F2, F3⟩ hi ha K hK
          replace hB := Lib.hid hB
          replace F1 := Lib.hid F1
          replace F2 := Lib.hid F2
          replace F3 := Lib.hid F3
          clear ha
          refine Pent.mk ?_
          try simp only [puts, Act.put, List.setIfInBounds_toArray, List.set_cons_zero, List.set_cons_succ]
          have g := Lib.hid ((Below.refl v.heap.size v).alloc (Nat.le_refl _) (.cells #[.int .i64 0, .pointer none] 26))
          go_simp
          exact hK.out _ _ ⟨t1, t2, .pointer (some ⟨v.heap.size, 0, none⟩), (by kernel_rfl), below_on hB.out g.out, fun h => F1.out h, fun h => (F2.out h).keep g.out, fun _ => ⟨v.heap.size, rfl, hB.out.size, Hold.new v 0 none⟩⟩
        · rintro dn an v ⟨t1, t2, t3, rfl, hB, F1, F2, F3⟩ hE
          have e1 := F1 (hE 1 (by decide))
          subst e1
          obtain ⟨x2, X2, rfl, I2⟩ := F2 (hE 2 (by decide))
          obtain ⟨p3, rfl, le3, N3⟩ := F3 (hE 3 (by decide))
          clear hE F1 F2 F3
          replace hB := Lib.hid hB
          replace I2 := Lib.hid I2
          replace N3 := Lib.hid N3
          refine Pent.mk ?_
          try simp only [puts, Act.put, List.setIfInBounds_toArray, List.set_cons_zero, List.set_cons_succ]
          have k30 := N3.out.c0
          have k31 := N3.out.c1
          have f30 := N3.out.f0
          have f31 := N3.out.f1
          refine Till.one (i := 4) (by kernel_rfl) rfl (fun K hK => ?_)
          go_simp
          refine hK.out _ _ (fun h => absurd h (by simp)) ?_
          clear hK K
          try simp only [List.setIfInBounds_toArray, List.set_cons_zero, List.set_cons_succ]
          refine Till.done (by kernel_rfl) ?_ _
          go_wp2_with fail
          go_meet
          exact ⟨p3, x2, X2, rfl, var_put N3.out I2.out, le3, below_stored hB.out le3 (.int .i64 x2) (.pointer X2)⟩
      case rest =>
        obtain ⟨p13, xn, Xn, rfl, hv1, le1, hb1⟩ := hcut
        replace V4 := Lib.hid (V4.out.keep hb1)
        replace V5 := Lib.hid (V5.out.keep hb1)
        replace V6 := Lib.hid (V6.out.keep hb1)
        replace V7 := Lib.hid (V7.out.keep hb1)
        replace R8 := Lib.hid (R8.out.keep hb1)
        replace R9 := Lib.hid (R9.out.keep hb1)
        replace W10 := Lib.hid (W10.out.keep hb1)
        replace W11 := Lib.hid (W11.out.keep hb1)
        replace K := Lib.hid (below_on K.out hb1)
        have W13 := Lib.hid hv1
        clear hv1 le1 hb1 HS HAd
        generalize wc = wp at *
        have hed : e * d ≤ c := by
          have h1 : e * d * b ≤ c * b := Nat.le_trans (by rw [Nat.mul_right_comm]; exact Nat.mul_le_mul_right d (by omega)) Hle.out
          exact Nat.le_of_mul_le_mul_right h1 hb
        have HMu := Lib.hid (fun v (hb : Below wp.heap.size wp v) => mul_any qa x3 qP X3 (e : Int) (d : Int) v (W10.out.keep hb).int (V7.out.keep hb).int (base_up (nat47 Le.out) (by decide)) (base_up (nat47 Ld.out) (by decide)) (.inl (by rw [Int.natAbs_natCast]; exact Le.out)))
        have Led := Lib.hid (show ((e : Int) * (d : Int)).natAbs < base 94 from mul94 (by rw [Int.natAbs_natCast]; exact Le.out) (by rw [Int.natAbs_natCast]; exact Ld.out))
        have HSu := Lib.hid (fun xa xA v (hb : Below wp.heap.size wp v) (h2 : IsInt 0 v (.agg #[.int .i64 xa, .pointer xA]) ((e : Int) * (d : Int))) => sub_any x2 xa X2 xA (c : Int) ((e : Int) * (d : Int)) v (V6.out.keep hb).int h2 (base_up (nat47 Lc.out) (by decide)) (base_up Led.out (by decide)))
        obtain ⟨t, ht⟩ : ∃ t, c = e * d + t := ⟨c - e * d, by omega⟩
        rw [show (c : Int) - (e : Int) * (d : Int) = (t : Int) by rw [ht, Int.natCast_add, Int.natCast_mul]; omega] at HSu
        have Lt := Lib.hid (show t < base 47 from Nat.lt_of_le_of_lt (by omega) Lc.out)
        have Ht := Lib.hid ht
        have HS := Lib.hid (fun w' (hb : Below wp.heap.size wp w') => (⟨(V6.out.keep hb).c0, (V6.out.keep hb).c1, (W10.out.keep hb).c0, (W10.out.keep hb).c1, (V7.out.keep hb).c0, (V7.out.keep hb).c1⟩ : w'.cell? ⟨w.heap.size + 1 + 1, 0, none⟩ = some (.int .i64 x2) ∧ w'.cell? ⟨w.heap.size + 1 + 1, 1, none⟩ = some (.pointer X2) ∧ w'.cell? ⟨p10, 0, none⟩ = some (.int .i64 qa) ∧ w'.cell? ⟨p10, 1, none⟩ = some (.pointer qP) ∧ w'.cell? ⟨w.heap.size + 1 + 1 + 1, 0, none⟩ = some (.int .i64 x3) ∧ w'.cell? ⟨w.heap.size + 1 + 1 + 1, 1, none⟩ = some (.pointer X3)))
        go_upto_region 5 with fail
        go_cut [14] (fun s wx => ∃ (p1 : Nat) (x : Int) (X : Option Addr), s = .pointer (some ⟨p1, 0, none⟩) ∧ Var wx p1 x X ((t : Int)) ∧ wp.heap.size ≤ p1 ∧ Below wp.heap.size wp wx)
        case first =>
          refine Till.begin 6 (fun w' => w'.cell? ⟨w.heap.size + 1 + 1, 0, none⟩ = some (.int .i64 x2) ∧ w'.cell? ⟨w.heap.size + 1 + 1, 1, none⟩ = some (.pointer X2) ∧ w'.cell? ⟨p10, 0, none⟩ = some (.int .i64 qa) ∧ w'.cell? ⟨p10, 1, none⟩ = some (.pointer qP) ∧ w'.cell? ⟨w.heap.size + 1 + 1 + 1, 0, none⟩ = some (.int .i64 x3) ∧ w'.cell? ⟨w.heap.size + 1 + 1 + 1, 1, none⟩ = some (.pointer X3)) (by kernel_rfl) (HS.out _ (Below.refl _ _).drew) (fun hH => ?_)
          refine Till.tk 0 4 30 (.agg #[.int .i64 x2, .pointer X2]) hH ?_
          try simp only [Act.put, List.setIfInBounds_toArray, List.set_cons_zero, List.set_cons_succ]
          refine Till.tk 1 3 31 (.agg #[.int .i64 qa, .pointer qP]) hH ?_
          try simp only [Act.put, List.setIfInBounds_toArray, List.set_cons_zero, List.set_cons_succ]
          refine Till.tk 2 3 32 (.agg #[.int .i64 x3, .pointer X3]) hH ?_
          try simp only [Act.put, List.setIfInBounds_toArray, List.set_cons_zero, List.set_cons_succ]
          clear hH
          have B0 := Lib.hid (Below.refl wp.heap.size wp).drew
          generalize wp.drew = v0 at B0 ⊢
          refine Till.phaseP [3, 4, 5] #[true, true, true, true, true, true, false] 1 (fun a0 dn an v => ∃ t3 t4 t5 : Value, an = puts a0 [(33, t3), (34, t4), (14, t5)] ∧ Below wp.heap.size wp v ∧ (dn 3 = true → IntAt v t3 ((e : Int) * (d : Int))) ∧ (dn 4 = true → IntAt v t4 ((t : Int))) ∧ (dn 5 = true → PtrI wp.heap.size v t5)) rfl (by kernel_rfl) (by rintro dn an v ⟨_, _, _, rfl, hB, _⟩; exact HS.out _ hB) ⟨_, _, _, rfl, B0.out, (fun h => absurd h (by decide)), (fun h => absurd h (by decide)), (fun h => absurd h (by decide))⟩ ⟨⟨_, rfl, ?_⟩, ⟨_, rfl, ?_⟩, ⟨_, rfl, ?_⟩, trivial⟩ ?_
          · rintro dn an v ⟨t3, t4, t5, rfl, hB, F3, F4, F5⟩ hi ha K hK
            replace hB := Lib.hid hB
            replace F3 := Lib.hid F3
            replace F4 := Lib.hid F4
            replace F5 := Lib.hid F5
            clear ha
            refine Pent.mk ?_
            try simp only [puts, Act.put, List.setIfInBounds_toArray, List.set_cons_zero, List.set_cons_succ]
            go_simp
            refine (HMu.out _ hB.out).mono ?_
            rintro e v1 ⟨x3, X3, rfl, hx, g⟩
            replace hx := Lib.hid hx
            replace g := Lib.hid g
            go_wp2_with fail
            exact hK.out _ _ ⟨.agg #[.int .i64 x3, .pointer X3], t4, t5, (by kernel_rfl), below_on hB.out g.out, fun _ => ⟨x3, X3, rfl, hx.out⟩, fun h => (F4.out h).keep g.out, fun h => (F5.out h).keep g.out⟩
          · rintro dn an v ⟨t3, t4, t5, rfl, hB, F3, F4, F5⟩ hi ha K hK
            obtain ⟨x3, X3, rfl, I3⟩ := F3 (ha 3 (by kernel_rfl))
            replace hB := Lib.hid hB
            replace F3 := Lib.hid F3
            replace F4 := Lib.hid F4
            replace F5 := Lib.hid F5
            replace I3 := Lib.hid I3
            clear ha
            refine Pent.mk ?_
            try simp only [puts, Act.put, List.setIfInBounds_toArray, List.set_cons_zero, List.set_cons_succ]
            go_simp
            refine (HSu.out _ _ _ hB.out I3.out).mono ?_
            rintro e v1 ⟨x4, X4, rfl, hx, g⟩
            replace hx := Lib.hid hx
            replace g := Lib.hid g
            go_wp2_with fail
            exact hK.out _ _ ⟨.agg #[.int .i64 x3, .pointer X3], .agg #[.int .i64 x4, .pointer X4], t5, (by kernel_rfl), below_on hB.out g.out, fun h => (F3.out h).keep g.out, fun _ => ⟨x4, X4, rfl, hx.out⟩, fun h => (F5.out h).keep g.out⟩
          · rintro dn an v ⟨t3, t4, t5, rfl, hB, F3, F4, F5⟩ hi ha K hK
            replace hB := Lib.hid hB
            replace F3 := Lib.hid F3
            replace F4 := Lib.hid F4
            replace F5 := Lib.hid F5
            clear ha
            refine Pent.mk ?_
            try simp only [puts, Act.put, List.setIfInBounds_toArray, List.set_cons_zero, List.set_cons_succ]
            have g := Lib.hid ((Below.refl v.heap.size v).alloc (Nat.le_refl _) (.cells #[.int .i64 0, .pointer none] 26))
            go_simp
            exact hK.out _ _ ⟨t3, t4, .pointer (some ⟨v.heap.size, 0, none⟩), (by kernel_rfl), below_on hB.out g.out, fun h => (F3.out h).keep g.out, fun h => (F4.out h).keep g.out, fun _ => ⟨v.heap.size, rfl, hB.out.size, Hold.new v 0 none⟩⟩
          · rintro dn an v ⟨t3, t4, t5, rfl, hB, F3, F4, F5⟩ hE
            obtain ⟨x3, X3, rfl, I3⟩ := F3 (hE 3 (by decide))
            obtain ⟨x4, X4, rfl, I4⟩ := F4 (hE 4 (by decide))
            obtain ⟨p5, rfl, le5, N5⟩ := F5 (hE 5 (by decide))
            clear hE F3 F4 F5
            replace hB := Lib.hid hB
            replace I3 := Lib.hid I3
            replace I4 := Lib.hid I4
            replace N5 := Lib.hid N5
            refine Pent.mk ?_
            try simp only [puts, Act.put, List.setIfInBounds_toArray, List.set_cons_zero, List.set_cons_succ]
            have k50 := N5.out.c0
            have k51 := N5.out.c1
            have f50 := N5.out.f0
            have f51 := N5.out.f1
            refine Till.one (i := 6) (by kernel_rfl) rfl (fun K hK => ?_)
            go_simp
            refine hK.out _ _ (fun h => absurd h (by simp)) ?_
            clear hK K
            try simp only [List.setIfInBounds_toArray, List.set_cons_zero, List.set_cons_succ]
            refine Till.done (by kernel_rfl) ?_ _
            go_wp2_with fail
            go_meet
            exact ⟨p5, x4, X4, rfl, var_put N5.out I4.out, le5, below_stored hB.out le5 (.int .i64 x4) (.pointer X4)⟩
        case rest =>
          obtain ⟨p14, xr, Xr, rfl, hv1, le1, hb1⟩ := hcut
          replace V4 := Lib.hid (V4.out.keep hb1)
          replace V5 := Lib.hid (V5.out.keep hb1)
          replace V6 := Lib.hid (V6.out.keep hb1)
          replace V7 := Lib.hid (V7.out.keep hb1)
          replace R8 := Lib.hid (R8.out.keep hb1)
          replace R9 := Lib.hid (R9.out.keep hb1)
          replace W10 := Lib.hid (W10.out.keep hb1)
          replace W11 := Lib.hid (W11.out.keep hb1)
          replace W13 := Lib.hid (W13.out.keep hb1)
          replace K := Lib.hid (below_on K.out hb1)
          have W14 := Lib.hid hv1
          clear hv1 le1 hb1 HS HMu HSu
          generalize wc = wq at *
          have HC := Lib.hid (compare_any _ _ (t : Int) (d : Int) wq W14.out.int V7.out.int)
          obtain ⟨cz, hcz⟩ : ∃ z, cmpZ (t : Int) (d : Int) = z := ⟨_, rfl⟩
          rw [hcz] at HC
          have c0 := W14.out.c0
          have c1 := W14.out.c1
          have d0 := V7.out.c0
          have d1 := V7.out.c1
          by_cases htd : d ≤ t
          · have tz : decide (0 ≤ cz) = true := by
              rw [← hcz]; unfold cmpZ; rw [if_neg (by omega)]; split <;> decide
            clear hcz
            have Hb := Lib.hid (best_next (d := d) (c := c) hb hsum hs1 hsb (by rw [Nat.succ_mul]; omega))
            have e1' : ((e : Int) + 1) = ((e + 1 : Nat) : Int) := by omega
            rw [e1'] at W13
            clear e1'
            go_wp2_with fail
            refine HC.out.mono ?_
            rintro e1 wr ⟨rfl, g1⟩
            replace V4 := Lib.hid (V4.out.keep g1)
            replace V5 := Lib.hid (V5.out.keep g1)
            replace V6 := Lib.hid (V6.out.keep g1)
            replace V7 := Lib.hid (V7.out.keep g1)
            replace R8 := Lib.hid (R8.out.keep g1)
            replace R9 := Lib.hid (R9.out.keep g1)
            replace W10 := Lib.hid (W10.out.keep g1)
            replace W11 := Lib.hid (W11.out.keep g1)
            replace W13 := Lib.hid (W13.out.keep g1)
            replace W14 := Lib.hid (W14.out.keep g1)
            replace K := Lib.hid (below_on K.out g1)
            clear g1 c0 c1 d0 d1
            have HS := Lib.hid (fun w' (hb : Below wr.heap.size wr w') => (⟨(W13.out.keep hb).c0, (W13.out.keep hb).c1⟩ : w'.cell? ⟨p13, 0, none⟩ = some (.int .i64 xn) ∧ w'.cell? ⟨p13, 1, none⟩ = some (.pointer Xn)))
            go_upto_region 7 with fail
            refine Till.begin 2 (fun w' => w'.cell? ⟨p13, 0, none⟩ = some (.int .i64 xn) ∧ w'.cell? ⟨p13, 1, none⟩ = some (.pointer Xn)) (by kernel_rfl) (HS.out _ (Below.refl _ _).drew) (fun hH => ?_)
            refine Till.tk 0 2 39 (.agg #[.int .i64 xn, .pointer Xn]) hH ?_
            try simp only [Act.put, List.setIfInBounds_toArray, List.set_cons_zero, List.set_cons_succ]
            clear hH
            have B0 := Lib.hid (Below.refl wr.heap.size wr).drew
            generalize wr.drew = v0 at B0 ⊢
            refine Till.phaseP [1] #[true, true, false, false] 2 (fun a0 dn an v => ∃ t1 : Value, an = puts a0 [(40, t1)] ∧ Below wr.heap.size wr v ∧ (dn 1 = true → t1 = .agg #[.int .i64 1, .pointer none])) rfl (by kernel_rfl) (by rintro dn an v ⟨_, rfl, hB, _⟩; exact HS.out _ hB) ⟨_, rfl, B0.out, (fun h => absurd h (by decide))⟩ ⟨⟨_, rfl, ?_⟩, trivial⟩ ?_
            · rintro dn an v ⟨t1, rfl, hB, F1⟩ hi ha K hK
              replace hB := Lib.hid hB
              replace F1 := Lib.hid F1
              clear ha
              refine Pent.mk ?_
              try simp only [puts, Act.put, List.setIfInBounds_toArray, List.set_cons_zero, List.set_cons_succ]
              go_simp
              refine (from_any _ _).mono ?_
              rintro e v1 ⟨rfl, g⟩
              replace g := Lib.hid g
              go_wp2_with fail
              exact hK.out _ _ ⟨.agg #[.int .i64 1, .pointer none], (by kernel_rfl), below_on hB.out g.out, fun _ => rfl⟩
            · rintro dn an v ⟨t1, rfl, hB, F1⟩ hE
              have e1 := F1 (hE 1 (by decide))
              subst e1
              clear hE F1
              replace hB := Lib.hid hB
              refine Pent.mk ?_
              try simp only [puts, Act.put, List.setIfInBounds_toArray, List.set_cons_zero, List.set_cons_succ]
              replace R8 := Lib.hid (R8.out.keep hB.out)
              replace R9 := Lib.hid (R9.out.keep hB.out)
              have r80 := R8.out.c0
              have r81 := R8.out.c1
              have f80 := R8.out.f0
              have f81 := R8.out.f1
              have r90 := R9.out.c0
              have r91 := R9.out.c1
              have f90 := R9.out.f0
              have f91 := R9.out.f1
              refine Till.one (i := 2) (by kernel_rfl) rfl (fun K hK => ?_)
              go_simp
              refine hK.out _ _ (fun h => absurd h (by simp)) ?_
              clear hK K
              try simp only [List.setIfInBounds_toArray, List.set_cons_zero, List.set_cons_succ]
              refine Till.one (i := 3) (by kernel_rfl) rfl (fun K hK => ?_)
              go_simp
              refine hK.out _ _ (fun h => absurd h (by simp)) ?_
              clear hK K
              try simp only [List.setIfInBounds_toArray, List.set_cons_zero, List.set_cons_succ]
              refine Till.done (by kernel_rfl) ?_ _
              have Hx := Lib.hid (((W13.out.keep hB.out).int.held R8.out (.int .i64 xn) (.pointer Xn)).held (R9.out.other (show w.heap.size + 1 + 1 + 1 + 1 + 1 ≠ w.heap.size + 1 + 1 + 1 + 1 by omega) (.int .i64 xn) (.pointer Xn)) (.int .i64 1) (.pointer none))
              have Kf := Lib.hid (below_stored (below_stored (below_on K.out hB.out) (show w.heap.size ≤ w.heap.size + 1 + 1 + 1 + 1 by omega) (.int .i64 xn) (.pointer Xn)) (show w.heap.size ≤ w.heap.size + 1 + 1 + 1 + 1 + 1 by omega) (.int .i64 1) (.pointer none))
              go_wp2
              exact bodyPost_ret (v := .tuple #[.agg #[.int .i64 xn, .pointer Xn], .agg #[.int .i64 1, .pointer none]]) (by simp [results, Tryz.results52, go_sem, r80, r81, r90, r91]) rfl ⟨e + 1, 1, xn, Xn, 1, none, rfl, Hx.out, small_int ⟨by decide, by decide⟩, Hb.out, Kf.out⟩
          · have tz : decide (0 ≤ cz) = false := by
              rw [← hcz]; unfold cmpZ; rw [if_pos (by omega)]; decide
            clear hcz
            have ht0 : 0 < t := by
              rcases Nat.eq_zero_or_pos t with h | h
              · exfalso
                have h1 := Hle.out
                rw [hsum, Ht.out, h, Nat.add_zero, Nat.add_mul, Nat.mul_right_comm e b d] at h1
                have h2 : 0 < s * d := Nat.mul_pos hs1 hd
                omega
              · exact h
            have hle2 : d * s ≤ b * t := by
              have h1 := Hle.out
              rw [hsum, Ht.out, Nat.add_mul, Nat.add_mul, Nat.mul_right_comm e b d] at h1
              have e1 : d * s = s * d := Nat.mul_comm _ _
              have e2 : b * t = t * b := Nat.mul_comm _ _
              omega
            have Hst := Lib.hid (fun n k (h : Best d t b s n k) => best_step (e := e) hsum Ht.out hsb (by omega) hs1 h)
            go_wp2_with fail
            refine HC.out.mono ?_
            rintro e1 wr ⟨rfl, g1⟩
            replace V4 := Lib.hid (V4.out.keep g1)
            replace V5 := Lib.hid (V5.out.keep g1)
            replace V6 := Lib.hid (V6.out.keep g1)
            replace V7 := Lib.hid (V7.out.keep g1)
            replace R8 := Lib.hid (R8.out.keep g1)
            replace R9 := Lib.hid (R9.out.keep g1)
            replace W10 := Lib.hid (W10.out.keep g1)
            replace W11 := Lib.hid (W11.out.keep g1)
            replace W13 := Lib.hid (W13.out.keep g1)
            replace W14 := Lib.hid (W14.out.keep g1)
            replace K := Lib.hid (below_on K.out g1)
            clear g1 c0 c1 d0 d1
            have HI := Lib.hid (IH.out d t b s x3 X3 xr Xr x1 X1 ra rP wr (by omega) hd ht0 hs1 hle2 Ld.out Lt.out Lb.out (Nat.lt_trans hsb Lb.out) V7.out.int W14.out.int V5.out.int W11.out.int)
            have c0 := V7.out.c0
            have c1 := V7.out.c1
            have d0 := W14.out.c0
            have d1 := W14.out.c1
            have i0 := V5.out.c0
            have i1 := V5.out.c1
            have j0 := W11.out.c0
            have j1 := W11.out.c1
            go_wp2_with fail
            refine HI.out.mono ?_
            rintro e1 ws ⟨n, k, y0, Y0, y1, Y1, rfl, hx, hy, hbest, g1⟩
            replace R8 := Lib.hid (R8.out.keep g1)
            replace R9 := Lib.hid (R9.out.keep g1)
            replace W10 := Lib.hid (W10.out.keep g1)
            replace K := Lib.hid (below_on K.out g1)
            have r80 := R8.out.c0
            have r81 := R8.out.c1
            have f80 := R8.out.f0
            have f81 := R8.out.f1
            have r90 := R9.out.c0
            have r91 := R9.out.c1
            have f90 := R9.out.f0
            have f91 := R9.out.f1
            have n98 : w.heap.size + 1 + 1 + 1 + 1 + 1 ≠ w.heap.size + 1 + 1 + 1 + 1 := by omega
            have n89 : w.heap.size + 1 + 1 + 1 + 1 ≠ w.heap.size + 1 + 1 + 1 + 1 + 1 := by omega
            have S9 := Lib.hid ((R9.out.store y0 Y0).other n98 (.int .i64 y1) (.pointer Y1))
            have R8a := Lib.hid (R8.out.other n89 (.int .i64 y0) (.pointer Y0))
            have S8 := Lib.hid (R8a.out.store y1 Y1)
            have Hn := Lib.hid ((hx.held R9.out (.int .i64 y0) (.pointer Y0)).held R8a.out (.int .i64 y1) (.pointer Y1))
            have Hk := Lib.hid ((hy.held R9.out (.int .i64 y0) (.pointer Y0)).held R8a.out (.int .i64 y1) (.pointer Y1))
            have W10a := Lib.hid ((W10.out.held R9.out (by omega) (.int .i64 y0) (.pointer Y0)).held R8a.out (by omega) (.int .i64 y1) (.pointer Y1))
            have Kf := Lib.hid (below_stored (below_stored K.out (show w.heap.size ≤ w.heap.size + 1 + 1 + 1 + 1 + 1 by omega) (.int .i64 y0) (.pointer Y0)) (show w.heap.size ≤ w.heap.size + 1 + 1 + 1 + 1 by omega) (.int .i64 y1) (.pointer Y1))
            have Hbest := Lib.hid (Hst.out n k hbest)
            obtain ⟨hnd, hkt⟩ := hbest.least d t ht0 (Nat.le_refl _) hle2
            have Ln := Lib.hid (show n < base 47 from Nat.lt_of_le_of_lt hnd Ld.out)
            have Lk := Lib.hid (show k < base 47 from Nat.lt_of_le_of_lt hkt Lt.out)
            clear hx hy hbest g1 c0 c1 d0 d1 i0 i1 j0 j1 hnd hkt
            obtain ⟨wu, hwu⟩ : ∃ x, ((((ws.setCell ⟨w.heap.size + 1 + 1 + 1 + 1 + 1, 0, none⟩ (.int .i64 y0)).setCell ⟨w.heap.size + 1 + 1 + 1 + 1 + 1, 1, none⟩ (.pointer Y0)).setCell ⟨w.heap.size + 1 + 1 + 1 + 1, 0, none⟩ (.int .i64 y1)).setCell ⟨w.heap.size + 1 + 1 + 1 + 1, 1, none⟩ (.pointer Y1)) = x := ⟨_, rfl⟩
            rw [hwu] at S9 S8 Hn Hk W10a Kf
            have HMv := Lib.hid (fun v (hb : Below wu.heap.size wu v) => mul_any qa y0 qP Y0 (e : Int) (n : Int) v (W10a.out.keep hb).int (Hn.out.keep hb) (base_up (nat47 Le.out) (by decide)) (base_up (nat47 Ln.out) (by decide)) (.inl (by rw [Int.natAbs_natCast]; exact Le.out)))
            have Len := Lib.hid (show ((e : Int) * (n : Int)).natAbs < base 94 from mul94 (by rw [Int.natAbs_natCast]; exact Le.out) (by rw [Int.natAbs_natCast]; exact Ln.out))
            have HAv := Lib.hid (fun xa xA v (hb : Below wu.heap.size wu v) (h2 : IsInt 0 v (.agg #[.int .i64 xa, .pointer xA]) ((e : Int) * (n : Int))) => add_any xa y1 xA Y1 ((e : Int) * (n : Int)) (k : Int) v h2 (Hk.out.keep hb) (base_up Len.out (by decide)) (base_up (nat47 Lk.out) (by decide)))
            rw [show (e : Int) * (n : Int) + (k : Int) = ((e * n + k : Nat) : Int) by rw [Int.natCast_add, Int.natCast_mul]] at HAv
            have HS := Lib.hid (fun w' (hb : Below wu.heap.size wu w') => (⟨(W10a.out.keep hb).c0, (W10a.out.keep hb).c1, (S9.out.keep hb).c0, (S9.out.keep hb).c1⟩ : w'.cell? ⟨p10, 0, none⟩ = some (.int .i64 qa) ∧ w'.cell? ⟨p10, 1, none⟩ = some (.pointer qP) ∧ w'.cell? ⟨w.heap.size + 1 + 1 + 1 + 1 + 1, 0, none⟩ = some (.int .i64 y0) ∧ w'.cell? ⟨w.heap.size + 1 + 1 + 1 + 1 + 1, 1, none⟩ = some (.pointer Y0)))
            go_upto_region 9 with fail
            try simp only [hwu]
            clear hwu r80 r81 f80 f81 r90 r91 f90 f91
            refine Till.begin 7 (fun w' => w'.cell? ⟨p10, 0, none⟩ = some (.int .i64 qa) ∧ w'.cell? ⟨p10, 1, none⟩ = some (.pointer qP) ∧ w'.cell? ⟨w.heap.size + 1 + 1 + 1 + 1 + 1, 0, none⟩ = some (.int .i64 y0) ∧ w'.cell? ⟨w.heap.size + 1 + 1 + 1 + 1 + 1, 1, none⟩ = some (.pointer Y0)) (by kernel_rfl) (HS.out _ (Below.refl _ _).drew) (fun hH => ?_)
            refine Till.tk 0 2 49 (.agg #[.int .i64 qa, .pointer qP]) hH ?_
            try simp only [Act.put, List.setIfInBounds_toArray, List.set_cons_zero, List.set_cons_succ]
            refine Till.tk 1 2 50 (.agg #[.int .i64 y0, .pointer Y0]) hH ?_
            try simp only [Act.put, List.setIfInBounds_toArray, List.set_cons_zero, List.set_cons_succ]
            refine Till.tk 5 7 54 (.agg #[.int .i64 y0, .pointer Y0]) hH ?_
            try simp only [Act.put, List.setIfInBounds_toArray, List.set_cons_zero, List.set_cons_succ]
            clear hH
            have B0 := Lib.hid (Below.refl wu.heap.size wu).drew
            generalize wu.drew = v0 at B0 ⊢
            refine Till.phaseP [2, 3, 4] #[true, true, true, true, true, true, false, false] 2 (fun a0 dn an v => ∃ t2 t3 t4 : Value, an = puts a0 [(51, t2), (52, t3), (53, t4)] ∧ Below wu.heap.size wu v ∧ (dn 2 = true → IntAt v t2 ((e : Int) * (n : Int))) ∧ (dn 3 = true → t3 = .agg #[.int .i64 y1, .pointer Y1]) ∧ (dn 4 = true → IntAt v t4 (((e * n + k : Nat) : Int)))) rfl (by kernel_rfl) (by rintro dn an v ⟨_, _, _, rfl, hB, _⟩; exact HS.out _ hB) ⟨_, _, _, rfl, B0.out, (fun h => absurd h (by decide)), (fun h => absurd h (by decide)), (fun h => absurd h (by decide))⟩ ⟨⟨_, rfl, ?_⟩, ⟨_, rfl, ?_⟩, ⟨_, rfl, ?_⟩, trivial⟩ ?_
            · rintro dn an v ⟨t2, t3, t4, rfl, hB, F2, F3, F4⟩ hi ha K hK
              replace hB := Lib.hid hB
              replace F2 := Lib.hid F2
              replace F3 := Lib.hid F3
              replace F4 := Lib.hid F4
              clear ha
              refine Pent.mk ?_
              try simp only [puts, Act.put, List.setIfInBounds_toArray, List.set_cons_zero, List.set_cons_succ]
              go_simp
              refine (HMv.out _ hB.out).mono ?_
              rintro e v1 ⟨x2, X2, rfl, hx, g⟩
              replace hx := Lib.hid hx
              replace g := Lib.hid g
              go_wp2_with fail
              exact hK.out _ _ ⟨.agg #[.int .i64 x2, .pointer X2], t3, t4, (by kernel_rfl), below_on hB.out g.out, fun _ => ⟨x2, X2, rfl, hx.out⟩, fun h => F3.out h, fun h => (F4.out h).keep g.out⟩
            · rintro dn an v ⟨t2, t3, t4, rfl, hB, F2, F3, F4⟩ hi ha K hK
              replace hB := Lib.hid hB
              replace F2 := Lib.hid F2
              replace F3 := Lib.hid F3
              replace F4 := Lib.hid F4
              clear ha
              refine Pent.mk ?_
              try simp only [puts, Act.put, List.setIfInBounds_toArray, List.set_cons_zero, List.set_cons_succ]
              have q0 := (S8.out.keep hB.out).c0
              have q1 := (S8.out.keep hB.out).c1
              have g := Lib.hid (Below.refl v.heap.size v)
              go_simp
              exact hK.out _ _ ⟨t2, .agg #[.int .i64 y1, .pointer Y1], t4, (by kernel_rfl), below_on hB.out g.out, fun h => (F2.out h).keep g.out, fun _ => rfl, fun h => (F4.out h).keep g.out⟩
            · rintro dn an v ⟨t2, t3, t4, rfl, hB, F2, F3, F4⟩ hi ha K hK
              obtain ⟨x2, X2, rfl, I2⟩ := F2 (ha 2 (by kernel_rfl))
              have e3 := F3 (ha 3 (by kernel_rfl))
              subst e3
              replace hB := Lib.hid hB
              replace F2 := Lib.hid F2
              replace F3 := Lib.hid F3
              replace F4 := Lib.hid F4
              replace I2 := Lib.hid I2
              clear ha
              refine Pent.mk ?_
              try simp only [puts, Act.put, List.setIfInBounds_toArray, List.set_cons_zero, List.set_cons_succ]
              go_simp
              refine (HAv.out _ _ _ hB.out I2.out).mono ?_
              rintro e v1 ⟨x4, X4, rfl, hx, g⟩
              replace hx := Lib.hid hx
              replace g := Lib.hid g
              go_wp2_with fail
              exact hK.out _ _ ⟨.agg #[.int .i64 x2, .pointer X2], .agg #[.int .i64 y1, .pointer Y1], .agg #[.int .i64 x4, .pointer X4], (by kernel_rfl), below_on hB.out g.out, fun h => (F2.out h).keep g.out, fun _ => rfl, fun _ => ⟨x4, X4, rfl, hx.out⟩⟩
            · rintro dn an v ⟨t2, t3, t4, rfl, hB, F2, F3, F4⟩ hE
              obtain ⟨x2, X2, rfl, I2⟩ := F2 (hE 2 (by decide))
              have e3 := F3 (hE 3 (by decide))
              subst e3
              obtain ⟨x4, X4, rfl, I4⟩ := F4 (hE 4 (by decide))
              clear hE F2 F3 F4
              replace hB := Lib.hid hB
              replace I2 := Lib.hid I2
              replace I4 := Lib.hid I4
              refine Pent.mk ?_
              try simp only [puts, Act.put, List.setIfInBounds_toArray, List.set_cons_zero, List.set_cons_succ]
              replace S8 := Lib.hid (S8.out.keep hB.out)
              replace S9 := Lib.hid (S9.out.keep hB.out)
              replace W10a := Lib.hid (W10a.out.keep hB.out)
              have t80 := S8.out.c0
              have t81 := S8.out.c1
              have g80 := S8.out.f0
              have g81 := S8.out.f1
              have t90 := S9.out.c0
              have t91 := S9.out.c1
              have g90 := S9.out.f0
              have g91 := S9.out.f1
              have W10b := Lib.hid (W10a.out.held S8.out (show p10 ≠ w.heap.size + 1 + 1 + 1 + 1 by omega) (.int .i64 x4) (.pointer X4))
              have S9b := Lib.hid (S9.out.other n98 (.int .i64 x4) (.pointer X4))
              refine Till.one (i := 6) (by kernel_rfl) rfl (fun K hK => ?_)
              go_simp
              refine hK.out _ _ (fun _ => ⟨W10b.out.c0, W10b.out.c1, S9b.out.c0, S9b.out.c1⟩) ?_
              clear hK K
              try simp only [List.setIfInBounds_toArray, List.set_cons_zero, List.set_cons_succ]
              refine Till.one (i := 7) (by kernel_rfl) rfl (fun K hK => ?_)
              go_simp
              refine hK.out _ _ (fun h => absurd h (by simp)) ?_
              clear hK K
              try simp only [List.setIfInBounds_toArray, List.set_cons_zero, List.set_cons_succ]
              refine Till.done (by kernel_rfl) ?_ _
              have Hx := Lib.hid ((I4.out.held S8.out (.int .i64 x4) (.pointer X4)).held S9b.out (.int .i64 y0) (.pointer Y0))
              have Hy := Lib.hid (((Hn.out.keep hB.out).held S8.out (.int .i64 x4) (.pointer X4)).held S9b.out (.int .i64 y0) (.pointer Y0))
              have Kg := Lib.hid (below_stored (below_stored (below_on Kf.out hB.out) (show w.heap.size ≤ w.heap.size + 1 + 1 + 1 + 1 by omega) (.int .i64 x4) (.pointer X4)) (show w.heap.size ≤ w.heap.size + 1 + 1 + 1 + 1 + 1 by omega) (.int .i64 y0) (.pointer Y0))
              go_wp2
              exact bodyPost_ret (v := .tuple #[.agg #[.int .i64 x4, .pointer X4], .agg #[.int .i64 y0, .pointer Y0]]) (by simp [results, Tryz.results52, go_sem, t80, t81, t90, t91]) rfl ⟨e * n + k, n, x4, X4, y0, Y0, rfl, Hx.out, Hy.out, Hbest.out, Kg.out⟩
end Go.Proofs.YtbpbfjnndkoioaaGreatDoor
