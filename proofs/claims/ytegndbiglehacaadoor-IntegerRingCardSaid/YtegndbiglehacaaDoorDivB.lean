/- guessDigit. -/
import Derived.Test.YtegndbiglehacaaDoorOps
namespace Go.Proofs.YtegndbiglehacaaDoor
open Go.RowKit

/-- A guessed digit of the quotient. -/
theorem guess_range {u v U D M g ur vr : Nat} (hu : u = U * M + ur) (hur : ur < M) (hv : v = D * M + vr) (hvr : vr < M) (hg1 : g * D ≤ U) (hg2 : U < (g + 1) * D) (hgD : g ≤ D + 1) (hv0 : 0 < v) : u / v ≤ g ∧ g ≤ u / v + 1 := by
  have hM : 0 < M := by omega
  constructor
  · rw [Nat.div_le_iff_le_mul_add_pred hv0]
    have h1 : (U + 1) * M ≤ (g + 1) * D * M := Nat.mul_le_mul_right _ hg2
    have h2 : (g + 1) * D * M = (g + 1) * (D * M) := Nat.mul_assoc _ _ _
    have h3 : (g + 1) * (D * M) ≤ (g + 1) * v := Nat.mul_le_mul_left _ (by omega)
    have h4 : (U + 1) * M = U * M + M := by rw [Nat.add_mul, Nat.one_mul]
    have h5 : (g + 1) * v = g * v + v := by rw [Nat.add_mul, Nat.one_mul]
    rw [Nat.mul_comm v g]
    omega
  · rcases Nat.eq_zero_or_pos g with h0 | h0
    · rw [h0]; exact Nat.zero_le _
    · obtain ⟨k, rfl⟩ : ∃ k, g = k + 1 := ⟨g - 1, by omega⟩
      have : k ≤ u / v := by
        rw [Nat.le_div_iff_mul_le hv0]
        have h1 : k * v ≤ k * ((D + 1) * M) := Nat.mul_le_mul_left _ (by rw [Nat.add_mul, Nat.one_mul]; omega)
        have h2 : k * ((D + 1) * M) = (k * D + k) * M := by rw [← Nat.mul_assoc, Nat.mul_add, Nat.mul_one]
        have h3 : k * D + k ≤ U := by
          have : (k + 1) * D = k * D + D := by rw [Nat.add_mul, Nat.one_mul]
          omega
        have h4 : (k * D + k) * M ≤ U * M := Nat.mul_le_mul_right _ h3
        omega
      omega
theorem guess_top {u v U v1 v0 M ur vr u2 u1 u0 : Nat} (hu : u = U * M + ur) (hU : U = 18446744073709551616 * (18446744073709551616 * u2 + u1) + u0) (hv : v = (18446744073709551616 * v1 + v0) * M + vr) (hvr : vr < M) (h21 : v1 ≤ u2) (hv1 : 9223372036854775808 ≤ v1) (hv0 : v0 < 18446744073709551616) (huv : u < 18446744073709551616 * v) : u / v ≤ 18446744073709551615 ∧ 18446744073709551615 ≤ u / v + 1 := by
  have hp : 0 < v := by
    rcases Nat.eq_zero_or_pos v with h | h
    · subst h; omega
    · exact h
  constructor
  · have := (Nat.div_lt_iff_lt_mul hp).2 huv
    omega
  · have : 18446744073709551614 ≤ u / v := by
      rw [Nat.le_div_iff_mul_le hp]
      have h1 : 18446744073709551614 * v ≤ 18446744073709551614 * ((18446744073709551616 * v1 + v0 + 1) * M) := Nat.mul_le_mul_left _ (by rw [Nat.add_mul (18446744073709551616 * v1 + v0), Nat.one_mul]; omega)
      have h2 : 18446744073709551614 * ((18446744073709551616 * v1 + v0 + 1) * M) = (18446744073709551614 * (18446744073709551616 * v1 + v0 + 1)) * M := (Nat.mul_assoc _ _ _).symm
      have h3 : 18446744073709551614 * (18446744073709551616 * v1 + v0 + 1) ≤ U := by rw [hU]; omega
      have h4 := Nat.mul_le_mul_right M h3
      omega
    omega
/-- What is left behind the subtraction of a guess. -/
theorem step_eq {u v g q R un p lo N : Nat} (hq : u / v = q) (hu : u = lo + N * un) (hs : R + v * g = lo + N * p) (hR : R < N) (hvN : v ≤ N) (hv : 0 < v) (h : g = q) : p = un ∧ R = u % v := by
  subst h
  have hm := Nat.div_add_mod u v
  have hlt := Nat.mod_lt u hv
  rw [hq] at hm
  have e : R + N * un = u % v + N * p := by omega
  rcases Nat.lt_trichotomy un p with h1 | h1 | h1
  · have : N * (un + 1) ≤ N * p := Nat.mul_le_mul_left _ h1
    rw [Nat.mul_add] at this; omega
  · subst h1; exact ⟨rfl, by omega⟩
  · have : N * (p + 1) ≤ N * un := Nat.mul_le_mul_left _ h1
    rw [Nat.mul_add] at this; omega
theorem step_back {u v g q R un p lo N : Nat} (hq : u / v = q) (hu : u = lo + N * un) (hs : R + v * g = lo + N * p) (hR : R < N) (hvN : v ≤ N) (hv : 0 < v) (h : g = q + 1) : p = un + 1 ∧ R + v = N + u % v := by
  subst h
  have hm := Nat.div_add_mod u v
  have hlt := Nat.mod_lt u hv
  rw [hq] at hm
  rw [Nat.mul_add, Nat.mul_one] at hs
  have e : R + v + N * un = u % v + N * p := by omega
  rcases Nat.lt_trichotomy (un + 1) p with h1 | h1 | h1
  · have : N * (un + 1 + 1) ≤ N * p := Nat.mul_le_mul_left _ h1
    rw [Nat.mul_add, Nat.mul_add] at this; omega
  · subst h1; rw [Nat.mul_add] at e; exact ⟨rfl, by omega⟩
  · have : N * p ≤ N * un := Nat.mul_le_mul_left _ (by omega)
    omega
/-- One round of the correction of a guess. -/
theorem guess_high {g v1 v0 r u2 u1 u0 : Nat} (he : r + g * v1 = 18446744073709551616 * u2 + u1) (h : g * v0 ≤ 18446744073709551616 * r + u0) : g * (18446744073709551616 * v1 + v0) ≤ 18446744073709551616 * (18446744073709551616 * u2 + u1) + u0 := by
  have e : g * (18446744073709551616 * v1 + v0) = 18446744073709551616 * (g * v1) + g * v0 := by rw [Nat.mul_add, Nat.mul_left_comm]
  rw [e]
  generalize g * v1 = x at *
  generalize g * v0 = y at *
  omega
theorem guess_low {g v1 v0 r u2 u1 u0 : Nat} (he : r + g * v1 = 18446744073709551616 * u2 + u1) (h : 18446744073709551616 * r + u0 < g * v0) : 18446744073709551616 * (18446744073709551616 * u2 + u1) + u0 < g * (18446744073709551616 * v1 + v0) := by
  have e : g * (18446744073709551616 * v1 + v0) = 18446744073709551616 * (g * v1) + g * v0 := by rw [Nat.mul_add, Nat.mul_left_comm]
  rw [e]
  generalize g * v1 = x at *
  generalize g * v0 = y at *
  omega
theorem guess_over {g v1 v0 r u2 u1 u0 : Nat} (he : r + (g + 1) * v1 = 18446744073709551616 * u2 + u1) (h : 18446744073709551616 ≤ r + v1) (hg : g < 18446744073709551616) (hv0 : v0 < 18446744073709551616) : g * (18446744073709551616 * v1 + v0) ≤ 18446744073709551616 * (18446744073709551616 * u2 + u1) + u0 := by
  refine guess_high (r := r + v1) (by rw [← he, Nat.add_mul]; omega) ?_
  have h1 : g * v0 ≤ 18446744073709551615 * 18446744073709551615 := Nat.mul_le_mul (by omega) (by omega)
  have h2 : 18446744073709551616 * 18446744073709551616 ≤ 18446744073709551616 * (r + v1) := Nat.mul_le_mul_left _ h
  omega
theorem guess_first {v1 v0 r u2 u1 u0 g : Nat} (he : r + g * v1 = 18446744073709551616 * u2 + u1) (hr : r < v1) (h0 : u0 < 18446744073709551616) : 18446744073709551616 * (18446744073709551616 * u2 + u1) + u0 < (g + 1) * (18446744073709551616 * v1 + v0) := by
  refine Nat.lt_of_lt_of_le ?_ (Nat.mul_le_mul_left (g + 1) (Nat.le_add_right _ v0))
  rw [Nat.mul_left_comm, Nat.add_mul g 1 v1, Nat.one_mul]
  generalize g * v1 = x at *
  omega

theorem subp_parts {d m q x h l s f s2 f2 : Nat} (hd : d < 18446744073709551616) (hm : m < 18446744073709551616) (hq : q < 18446744073709551616) (hx : x < 18446744073709551616) (hh : d * m / 18446744073709551616 = h) (hl : d * m % 18446744073709551616 = l)
    (hs : (l + q + 0) % 18446744073709551616 = s) (hf : (l + q + 0) / 18446744073709551616 = f) (hs2 : (x + 18446744073709551616 - s - 0) % 18446744073709551616 = s2) (hf2 : (if x < s + 0 then 1 else 0) = f2) :
    s2 + d * m + q = x + 18446744073709551616 * (h + f + f2) ∧ h + f + f2 < 18446744073709551616 ∧ s2 < 18446744073709551616 ∧ s < 18446744073709551616 ∧ h + f < 18446744073709551616 := by
  have h1 : d * m ≤ 18446744073709551615 * 18446744073709551615 := Nat.mul_le_mul (by omega) (by omega)
  generalize d * m = t at *
  split at hf2 <;> omega
def SubpInv (w0 : World) (g o n : Nat) (xs ys : List Nat) (m : Nat) (vi vp : Value) (wr : World) : Prop :=
  ∃ (rs : List Nat) (p : Nat), rs.length ≤ n ∧ vi = .int .i64 (rs.length : Nat) ∧ vp = .int .u64 (p : Nat) ∧ p < 18446744073709551616 ∧ Words rs ∧ natVal rs + natVal (ys.take rs.length) * m = natVal ((xs.drop o).take rs.length) + base rs.length * p ∧ Blk wr g (put xs o rs) ∧ Only g w0 wr
theorem subp_step {w0 wr : World} {g o n k x d m q h l s f s2 f2 j : Nat} {xs ys rs : List Nat} (hk : rs.length = k) (hkn : k < n) (ho : o + n ≤ xs.length) (hx : xs.getD (o + k) 0 = x) (hy : ys.getD k 0 = d) (hx1 : x < 18446744073709551616) (hd : d < 18446744073709551616) (hm : m < 18446744073709551616) (hq : q < 18446744073709551616)
    (hh : d * m / 18446744073709551616 = h) (hl : d * m % 18446744073709551616 = l) (hs : (l + q + 0) % 18446744073709551616 = s) (hf : (l + q + 0) / 18446744073709551616 = f) (hs2 : (x + 18446744073709551616 - s - 0) % 18446744073709551616 = s2) (hf2 : (if x < s + 0 then 1 else 0) = f2)
    (hw : Words rs) (hv : natVal rs + natVal (ys.take rs.length) * m = natVal ((xs.drop o).take rs.length) + base rs.length * q) (hb : Blk wr g (put xs o rs)) (ho2 : Only g w0 wr) :
    SubpInv w0 g o n xs ys m (.int .i64 ((k : Int) + 1)) (.int .u64 ((h : Int) + f + f2)) ((wr.drewN j).setCell ⟨g, o + k, none⟩ (.int .u64 (s2 : Int))) := by
  obtain ⟨e1, e2, e3, _⟩ := subp_parts hd hm hq hx1 hh hl hs hf hs2 hf2
  subst hk
  refine ⟨rs ++ [s2], h + f + f2, by simp; omega, by simp, by simp, e2, words_snoc hw e3, ?_, ?_, (ho2.drewN j).set_ _ _⟩
  · rw [natVal_snoc, List.length_append, List.length_singleton, base_succ, take_next (by omega) hx, natVal_snoc, take_len (by omega), take_up0 hy]
    have e4 : base rs.length * (s2 + d * m + q) = base rs.length * (x + 18446744073709551616 * (h + f + f2)) := by rw [e1]
    simp only [Nat.mul_add, Nat.add_mul, Nat.mul_assoc, Nat.mul_left_comm] at e4 hv ⊢
    omega
  · rw [← put_set (by omega)]
    exact (hb.drewN j).set_ _ (by rw [put_length (by omega)]; omega)

set_option maxRecDepth 100000 in
set_option maxHeartbeats 4000000 in
theorem subProduct_any (g o n c n' c' : Nat) (A' : Option Addr) (xs ys : List Nat) (m : Nat) (w : World) (hb : Blk w g xs) (hl : IsL w A' n' c' (u64s ys)) (hA : ∀ a : Addr, A' = some a → a.block ≠ g) (ho : o + n ≤ xs.length) (hn' : n' ≤ n) (hx : Words xs) (hy : Words ys) (hm : m < 18446744073709551616) (hn : n < 1000000) (_hoo : o < 1000000) (h0 : 0 < n') :
    Calls Tryd.prog 91 #[.slice (some ⟨g, o, none⟩) n c, .slice A' n' c', .int .u64 (m : Nat)] w fun e w' =>
      ∃ (rs : List Nat) (q : Nat), e = .returned (.int .u64 (q : Nat)) ∧ rs.length = n' ∧ q < 18446744073709551616 ∧ Words rs ∧ natVal rs + natVal ys * m = natVal ((xs.drop o).take n') + base n' * q ∧ Blk w' g (put xs o rs) ∧ Only g w w' := by
  have hlen : ys.length = n' := by have := hl.1; rwa [u64s_length] at this
  obtain ⟨b', o', rfl, hb', hc'⟩ := hl.2.2 h0
  have hne : b' ≠ g := hA _ rfl
  have Hb := Lib.hid hb
  have Hx := Lib.hid hx
  have Hy := Lib.hid hy
  have Hlen := Lib.hid hlen
  have Hc := Lib.hid (show ∀ k : Nat, k < n' → w.cell? ⟨b', o' + k, none⟩ = some (.int .u64 ((ys.getD k 0 : Nat) : Int)) from fun k hk => hc' k _ (by simp [u64s, show k < ys.length by omega]))
  have hle := hl.2.1
  clear hb hx hy hl hA hlen hc'
  go_enter Tryd.func91, Tryd.ntmps91
  go_wp2_with fail
  go_loopw [17, 7] (fun vi vp wr => SubpInv w g o n' xs ys m vi vp wr) (fun vi _ _ => n' - (intOf vi).toNat)
  case atStart => exact ⟨[], 0, Nat.zero_le _, rfl, rfl, by decide, fun d hd => absurd hd (by simp), by simp [natVal, base_zero], by rw [put_nil]; exact Hb.out, Only.refl _ _⟩
  case round =>
    obtain ⟨rs, q, hkn, rfl, rfl, hq, hw, hv, hblk, honly⟩ := hrel
    have Hw := Lib.hid hw
    have Hv := Lib.hid hv
    have Hblk := Lib.hid hblk
    have Honly := Lib.hid honly
    obtain ⟨k, hk⟩ : ∃ k, rs.length = k := ⟨_, rfl⟩
    have Hk := Lib.hid hk
    rw [hk] at hkn ⊢
    by_cases hlt : k < n'
    · have hcell := hblk.cell (i := o + k) (by rw [put_length (by omega)]; omega)
      rw [put_get (by omega) (by omega)] at hcell
      have hfz := hblk.frozen (o + k)
      have hcy := (honly.cell (o := o' + k) hb' hne).trans (Hc.out k hlt)
      have hx1 := word_at Hx.out (o + k)
      have hy1 := word_at Hy.out k
      obtain ⟨x, hx⟩ : ∃ x, xs.getD (o + k) 0 = x := ⟨_, rfl⟩
      obtain ⟨d, hd⟩ : ∃ d, ys.getD k 0 = d := ⟨_, rfl⟩
      rw [hx] at hcell hx1
      rw [hd] at hcy hy1
      have HX := Lib.hid hx
      have HY := Lib.hid hd
      clear hblk honly hw hv hk hx hd
      obtain ⟨h, hh⟩ : ∃ h, d * m / 18446744073709551616 = h := ⟨_, rfl⟩
      obtain ⟨l, hl⟩ : ∃ l, d * m % 18446744073709551616 = l := ⟨_, rfl⟩
      obtain ⟨s, hs⟩ : ∃ s, (l + q + 0) % 18446744073709551616 = s := ⟨_, rfl⟩
      obtain ⟨f, hf⟩ : ∃ f, (l + q + 0) / 18446744073709551616 = f := ⟨_, rfl⟩
      obtain ⟨s2, hs2⟩ : ∃ s2, (x + 18446744073709551616 - s - 0) % 18446744073709551616 = s2 := ⟨_, rfl⟩
      obtain ⟨f2, hf2⟩ : ∃ f2, (if x < s + 0 then 1 else 0) = f2 := ⟨_, rfl⟩
      have Hmul := Lib.hid (mul64_at d m h l hy1 hm hh hl)
      have hadd : ∀ W : World, (callFunc 84 #[.int .u64 (l : Int), .int .u64 (q : Int), .int .u64 0]).run Tryd.prog W = .ok (.value (.tuple #[.int .u64 (s : Int), .int .u64 (f : Int)])) W := add64_at l q 0 s f (by omega) hs hf
      have hadd2 : ∀ W : World, (callFunc 88 #[.int .u64 (x : Int), .int .u64 (s : Int), .int .u64 0]).run Tryd.prog W = .ok (.value (.tuple #[.int .u64 (s2 : Int), .int .u64 (f2 : Int)])) W := sub64_at x s 0 s2 f2 (by omega) hs2 hf2
      obtain ⟨_, hle, _, _, hle2⟩ := subp_parts hy1 hm hq hx1 hh hl hs hf hs2 hf2
      have hle' : (h : Int) + f + f2 < 18446744073709551616 := by omega
      have hle2' : (h : Int) + f < 18446744073709551616 := by omega
      have Hh := Lib.hid hh
      have Hl := Lib.hid hl
      have Hs := Lib.hid hs
      have Hf := Lib.hid hf
      have Hs2 := Lib.hid hs2
      have Hf2 := Lib.hid hf2
      clear hh hl hs hf hs2 hf2
      go_wp2_with fail
      refine (Hmul.out _).mono ?_
      rintro e w' ⟨rfl, rfl⟩
      go_wp2_with fail
      exact ⟨subp_step (j := 0) Hk.out hlt (by omega) HX.out HY.out hx1 hy1 hm hq Hh.out Hl.out Hs.out Hf.out Hs2.out Hf2.out Hw.out Hv.out Hblk.out Honly.out, by simp [intOf] <;> omega⟩
    · obtain rfl : k = n' := by omega
      have Hys := Lib.hid (show ys.take k = ys from List.take_of_length_le (by rw [Hlen.out]; exact Nat.le_refl _))
      clear hblk honly hw hv hk
      go_wp2
      go_ret
      exact ⟨rs, q, rfl, Hk.out, hq, Hw.out, by have h1 := Hv.out; rw [Hk.out, Hys.out] at h1; exact h1, Hblk.out, Honly.out⟩
/-- What a guessed digit is. -/
def Guess (u2 u1 u0 v1 v0 g : Nat) : Prop :=
  g < 18446744073709551616 ∧ ((u2 < v1 ∧ g * (18446744073709551616 * v1 + v0) ≤ 18446744073709551616 * (18446744073709551616 * u2 + u1) + u0 ∧ 18446744073709551616 * (18446744073709551616 * u2 + u1) + u0 < (g + 1) * (18446744073709551616 * v1 + v0)) ∨ (v1 ≤ u2 ∧ g = 18446744073709551615))
def GuessInv (w0 : World) (u2 u1 u0 v1 v0 : Nat) (vg vr : Value) (wr : World) : Prop :=
  ∃ g r : Nat, vg = .int .u64 (g : Nat) ∧ vr = .int .u64 (r : Nat) ∧ g < 18446744073709551616 ∧ r < 18446744073709551616 ∧ r + g * v1 = 18446744073709551616 * u2 + u1 ∧ 18446744073709551616 * (18446744073709551616 * u2 + u1) + u0 < (g + 1) * (18446744073709551616 * v1 + v0) ∧ ∃ n, wr = w0.drewN n
theorem guess_start {v1 u2 u1 u0 v0 q r : Nat} (hq : (18446744073709551616 * u2 + u1) / v1 = q) (hr : (18446744073709551616 * u2 + u1) % v1 = r) (h : u2 < v1) (h1 : u1 < 18446744073709551616) (h0 : u0 < 18446744073709551616) (hv : v1 < 18446744073709551616) :
    q < 18446744073709551616 ∧ r < 18446744073709551616 ∧ r + q * v1 = 18446744073709551616 * u2 + u1 ∧ 18446744073709551616 * (18446744073709551616 * u2 + u1) + u0 < (q + 1) * (18446744073709551616 * v1 + v0) := by
  have hp : 0 < v1 := by omega
  have hlt := Nat.mod_lt (18446744073709551616 * u2 + u1) hp
  have hdm := Nat.div_add_mod (18446744073709551616 * u2 + u1) v1
  rw [hq, hr] at hdm
  rw [hr] at hlt
  rw [Nat.mul_comm] at hdm
  have he : r + q * v1 = 18446744073709551616 * u2 + u1 := by omega
  refine ⟨?_, by omega, he, guess_first he hlt h0⟩
  rw [← hq, Nat.div_lt_iff_lt_mul hp]
  have h2 : 18446744073709551616 * (u2 + 1) ≤ 18446744073709551616 * v1 := Nat.mul_le_mul_left _ h
  omega
theorem guess_test {g v0 h l r u0 : Nat} (hh : g * v0 / 18446744073709551616 = h) (hl : g * v0 % 18446744073709551616 = l) (hu : u0 < 18446744073709551616) : (g * v0 ≤ 18446744073709551616 * r + u0 ↔ h < r ∨ (h = r ∧ l ≤ u0)) := by
  generalize g * v0 = x at *
  omega
set_option maxRecDepth 100000 in
set_option maxHeartbeats 8000000 in
theorem guessDigit_any (u2 u1 u0 v1 v0 : Nat) (w : World) (h2 : u2 < 18446744073709551616) (h1 : u1 < 18446744073709551616) (h0 : u0 < 18446744073709551616) (hv1 : v1 < 18446744073709551616) (hv0 : v0 < 18446744073709551616) :
    Calls Tryd.prog 90 #[.int .u64 (u2 : Nat), .int .u64 (u1 : Nat), .int .u64 (u0 : Nat), .int .u64 (v1 : Nat), .int .u64 (v0 : Nat)] w fun e w' => (∃ g : Nat, e = .returned (.int .u64 (g : Nat)) ∧ Guess u2 u1 u0 v1 v0 g) ∧ ∃ n, w' = w.drewN n := by
  by_cases htop : v1 ≤ u2
  · have Hfin := Lib.hid (show Guess u2 u1 u0 v1 v0 18446744073709551615 from ⟨by decide, .inr ⟨htop, rfl⟩⟩)
    go_enter Tryd.func90, Tryd.ntmps90
    go_wp2
    go_ret
    exact ⟨⟨18446744073709551615, rfl, Hfin.out⟩, 0, rfl⟩
  · have hlt : u2 < v1 := by omega
    have Hlt := Lib.hid hlt
    clear htop
    obtain ⟨q, hq⟩ : ∃ q, (18446744073709551616 * u2 + u1) / v1 = q := ⟨_, rfl⟩
    obtain ⟨r, hr⟩ : ∃ r, (18446744073709551616 * u2 + u1) % v1 = r := ⟨_, rfl⟩
    have Hst := Lib.hid (guess_start (u0 := u0) (v0 := v0) hq hr hlt h1 h0 hv1)
    have Hdiv := Lib.hid (fun w => div64_any u2 u1 v1 w h1 hv1 hlt q r hq hr)
    clear hq hr
    go_enter Tryd.func90, Tryd.ntmps90
    go_wp2_with fail
    refine (Hdiv.out _).mono ?_
    rintro e w1 ⟨rfl, n1, rfl⟩
    go_wp2_with fail
    go_loopw [11, 12] (fun vg vr wr => GuessInv w u2 u1 u0 v1 v0 vg vr wr) (fun vg _ _ => (intOf vg).toNat)
    case atStart => exact ⟨q, r, rfl, rfl, Hst.out.1, Hst.out.2.1, Hst.out.2.2.1, Hst.out.2.2.2, n1, rfl⟩
    case round =>
      obtain ⟨g, r, rfl, rfl, hg, hr, he, hup, n2, rfl⟩ := hrel
      have He := Lib.hid he
      have Hup := Lib.hid hup
      obtain ⟨h, hh⟩ : ∃ h, g * v0 / 18446744073709551616 = h := ⟨_, rfl⟩
      obtain ⟨l, hl⟩ : ∃ l, g * v0 % 18446744073709551616 = l := ⟨_, rfl⟩
      have Htest := Lib.hid (guess_test (r := r) (u0 := u0) hh hl h0)
      have Hmul := Lib.hid (mul64_at g v0 h l hg hv0 hh hl)
      clear he hup hh hl
      by_cases hout : h < r ∨ (h = r ∧ l ≤ u0)
      · have Hfin := Lib.hid (show Guess u2 u1 u0 v1 v0 g from ⟨hg, .inl ⟨hlt, guess_high He.out (Htest.out.2 hout), Hup.out⟩⟩)
        rcases hout with hc | ⟨hc, hc2⟩
        · go_wp2_with fail
          refine (Hmul.out _).mono ?_
          rintro e w' ⟨rfl, rfl⟩
          go_wp2
          go_ret
          exact ⟨⟨g, rfl, Hfin.out⟩, _, rfl⟩
        · subst hc
          go_wp2_with fail
          refine (Hmul.out _).mono ?_
          rintro e w' ⟨rfl, rfl⟩
          go_wp2
          go_ret
          exact ⟨⟨g, rfl, Hfin.out⟩, _, rfl⟩
      · have hlow : 18446744073709551616 * r + u0 < g * v0 := by
          rcases Nat.lt_or_ge (18446744073709551616 * r + u0) (g * v0) with h3 | h3
          · exact h3
          · exact absurd (Htest.out.1 h3) hout
        have hU := guess_low He.out hlow
        cases g with
        | zero => simp at hlow
        | succ k =>
          have hg1 : k + 1 < 18446744073709551616 := hg
          have HU := Lib.hid hU
          have hcase : (r < h) ∨ (h = r ∧ u0 < l) := by omega
          clear hout hlow hU
          by_cases hov : 18446744073709551616 ≤ r + v1
          · have Hfin := Lib.hid (show Guess u2 u1 u0 v1 v0 k from ⟨by omega, .inl ⟨hlt, guess_over He.out hov (by omega) hv0, HU.out⟩⟩)
            have e1 : IntKind.u64.wrap ((r : Int) + (v1 : Int)) = (r : Int) + (v1 : Int) - 18446744073709551616 := by rw [wrap_u64]; omega
            rcases hcase with hc | ⟨hc, hc2⟩
            · have t0 : ((h : Int) == (r : Int)) = false := by rw [beq_eq_false_iff_ne]; omega
              go_wp2_with fail
              refine (Hmul.out _).mono ?_
              rintro e w' ⟨rfl, rfl⟩
              go_wp2
              go_ret
              exact ⟨⟨k, by simp, Hfin.out⟩, _, rfl⟩
            · subst hc
              go_wp2_with fail
              refine (Hmul.out _).mono ?_
              rintro e w' ⟨rfl, rfl⟩
              go_wp2
              go_ret
              exact ⟨⟨k, by simp, Hfin.out⟩, _, rfl⟩
          · have Hnext := Lib.hid (show GuessInv w u2 u1 u0 v1 v0 (.int .u64 (k : Nat)) (.int .u64 ((r : Int) + (v1 : Int))) (w.drewN n2) from ⟨k, r + v1, rfl, by simp, by omega, by omega, by have := He.out; rw [Nat.add_mul] at this; omega, HU.out, n2, rfl⟩)
            have e1 : IntKind.u64.wrap ((r : Int) + (v1 : Int)) = (r : Int) + (v1 : Int) := by rw [wrap_u64]; omega
            clear hov
            rcases hcase with hc | ⟨hc, hc2⟩
            · have t0 : ((h : Int) == (r : Int)) = false := by rw [beq_eq_false_iff_ne]; omega
              go_wp2_with fail
              refine (Hmul.out _).mono ?_
              rintro e w' ⟨rfl, rfl⟩
              go_wp2_with fail
              exact ⟨by simpa using Hnext.out, by simp [intOf]⟩
            · subst hc
              go_wp2_with fail
              refine (Hmul.out _).mono ?_
              rintro e w' ⟨rfl, rfl⟩
              go_wp2_with fail
              exact ⟨by simpa using Hnext.out, by simp [intOf]⟩
end Go.Proofs.YtegndbiglehacaaDoor
