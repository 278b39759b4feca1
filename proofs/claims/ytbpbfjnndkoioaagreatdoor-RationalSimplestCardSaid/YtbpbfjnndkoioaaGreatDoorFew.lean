/- Rationals of few digits; their texts; the reference's sums. -/
import Derived.Test.YtbpbfjnndkoioaaGreatDoorRatS
namespace Go.Proofs.YtbpbfjnndkoioaaGreatDoor
open Go.RowKit

theorem rat_bounds_any {z k : Int} {m n : Nat} (hz : z.natAbs < m) (hk : k.natAbs < n) (hk0 : k ≠ 0) : (Rat.divInt z k).num.natAbs < m ∧ (Rat.divInt z k).den < n := by
  rcases Int.lt_or_gt_of_ne hk0 with hn | hp
  · have e2 : Rat.divInt z k = Rat.divInt (-z) (k.natAbs : Nat) := by rw [← rat_neg]; congr 1; omega
    obtain ⟨h1, h2⟩ := rat_make (n := -z) (k := k.natAbs) (by omega)
    rw [e2, h1, h2]
    refine ⟨?_, Nat.lt_of_le_of_lt (Nat.div_le_self _ _) hk⟩
    have h3 := Int.natAbs_ediv_le_natAbs (-z) ((Nat.gcd (-z).natAbs k.natAbs : Nat) : Int)
    rw [Int.natAbs_neg] at h3
    exact Nat.lt_of_le_of_lt (by rw [Int.natAbs_neg]; exact h3) hz
  · have e2 : Rat.divInt z k = Rat.divInt z (k.natAbs : Nat) := by congr 1; omega
    obtain ⟨h1, h2⟩ := rat_make (n := z) (k := k.natAbs) (by omega)
    rw [e2, h1, h2]
    exact ⟨Nat.lt_of_le_of_lt (Int.natAbs_ediv_le_natAbs _ _) hz, Nat.lt_of_le_of_lt (Nat.div_le_self _ _) hk⟩
theorem rat_quot (p q : Rat) : p / q = Rat.divInt (p.num * (q.den : Int)) ((p.den : Int) * q.num) := by
  have e0 := Rat.divInt_mul_divInt p.num (q.den : Int) (d₁ := p.den) (d₂ := q.num)
  have e1 : Rat.divInt (q.den : Int) q.num = q⁻¹ := by
    have h := Rat.inv_divInt q.num (q.den : Int)
    rw [rat_self] at h
    exact h.symm
  rw [e1, rat_self] at e0
  rw [Rat.div_def, e0]
theorem ten_add (a b : Nat) : ten (a + b) = ten a * ten b := Nat.pow_add 10 a b
theorem ten_mul {x y : Int} {k m : Nat} (hx : x.natAbs < ten k) (hy : y.natAbs < ten m) : (x * y).natAbs < ten (k + m) := by
  rw [Int.natAbs_mul, ten_add]
  exact Nat.mul_lt_mul'' hx hy
theorem ten_sum {x y : Int} {k : Nat} (hx : x.natAbs < ten k) (hy : y.natAbs < ten k) : (x + y).natAbs < ten (k + 1) := by
  rw [ten_succ]
  omega
theorem ten900 : ten 900 ≤ base 47 := by decide +kernel
/-- Numerator and denominator have few digits. -/
structure Few (q : Rat) (k : Nat) : Prop where
  n : q.num.natAbs < ten k
  d : q.den < ten k
theorem Few.di {q : Rat} {k : Nat} (h : Few q k) : ((q.den : Nat) : Int).natAbs < ten k := by rw [Int.natAbs_natCast]; exact h.d
theorem Few.up {q : Rat} {k m : Nat} (h : Few q k) (hk : k ≤ m) : Few q m := ⟨Nat.lt_of_lt_of_le h.n (ten_le hk), Nat.lt_of_lt_of_le h.d (ten_le hk)⟩
theorem RS.few {s : ByteArray} {q : Rat} (h : RS s q) : Few q 40 := ⟨h.nlt, h.dlt⟩
theorem Few.neg {q : Rat} {k : Nat} (h : Few q k) : Few (-q) k := ⟨by rw [Rat.neg_num, Int.natAbs_neg]; exact h.n, by rw [Rat.neg_den]; exact h.d⟩
theorem Few.n47 {q : Rat} {k : Nat} (h : Few q k) (hk : k ≤ 900) : q.num.natAbs < base 47 := Nat.lt_of_lt_of_le h.n (Nat.le_trans (ten_le hk) ten900)
theorem Few.d47 {q : Rat} {k : Nat} (h : Few q k) (hk : k ≤ 900) : q.den < base 47 := Nat.lt_of_lt_of_le h.d (Nat.le_trans (ten_le hk) ten900)
theorem Few.n390 {q : Rat} {k : Nat} (h : Few q k) (hk : k ≤ 900) : q.num.natAbs < base 390 := base_up (h.n47 hk) (by decide)
theorem Few.d390 {q : Rat} {k : Nat} (h : Few q k) (hk : k ≤ 900) : ((q.den : Nat) : Int).natAbs < base 390 := by rw [Int.natAbs_natCast]; exact base_up (h.d47 hk) (by decide)
theorem Few.ns {q : Rat} {k : Nat} (h : Few q k) (hk : k ≤ 900) : (txt q.num).size ≤ 901 := by
  have := txt_size q.num (k := 900) (Nat.lt_of_lt_of_le h.n (ten_le hk)) (by decide)
  omega
theorem Few.ds {q : Rat} {k : Nat} (h : Few q k) (hk : k ≤ 900) : (txt (q.den : Int)).size ≤ 901 := by
  have := txt_size (q.den : Int) (k := 900) (Nat.lt_of_lt_of_le h.di (ten_le hk)) (by decide)
  omega
theorem Few.mul {p q : Rat} {k m : Nat} (hp : Few p k) (hq : Few q m) : Few (p * q) (k + m) := by
  have h := rat_bounds_any (ten_mul hp.n hq.n) (k := ((p.den * q.den : Nat) : Int)) (n := ten (k + m)) (by rw [Int.natCast_mul]; exact ten_mul hp.di hq.di) (by have := Nat.mul_pos p.den_pos q.den_pos; omega)
  rw [rat_prod]
  exact ⟨h.1, h.2⟩
theorem Few.add {p q : Rat} {k m : Nat} (hp : Few p k) (hq : Few q m) : Few (p + q) (k + m + 1) := by
  have h := rat_bounds_any (ten_sum (ten_mul hp.n hq.di) (by have := ten_mul hq.n hp.di; rwa [Nat.add_comm m k] at this)) (k := ((p.den * q.den : Nat) : Int)) (n := ten (k + m)) (by rw [Int.natCast_mul]; exact ten_mul hp.di hq.di) (by have := Nat.mul_pos p.den_pos q.den_pos; omega)
  rw [rat_sum]
  exact ⟨h.1, Nat.lt_of_lt_of_le h.2 (ten_le (by omega))⟩
theorem Few.sub {p q : Rat} {k m : Nat} (hp : Few p k) (hq : Few q m) : Few (p - q) (k + m + 1) := by
  rw [Rat.sub_eq_add_neg]
  exact hp.add hq.neg
theorem Few.div {p q : Rat} {k m : Nat} (hp : Few p k) (hq : Few q m) (hq0 : q.num ≠ 0) : Few (p / q) (k + m) := by
  have h := rat_bounds_any (ten_mul hp.n hq.di) (k := (p.den : Int) * q.num) (n := ten (k + m)) (ten_mul hp.di hq.n) (Int.mul_ne_zero (by have := p.den_pos; omega) hq0)
  rw [rat_quot]
  exact ⟨h.1, h.2⟩
theorem ten_txt {z : Int} {k : Nat} (h : z.natAbs < ten k) (hk : k ≤ 2000) : (txt z).size ≤ 3000 := by
  have := txt_size z (k := 2000) (Nat.lt_of_lt_of_le h (ten_le hk)) (by decide)
  omega
theorem is_few (a : Int) (P : Option Addr) (b : Int) (Q : Option Addr) {q : Rat} {k : Nat} (hk : k ≤ 900) (hf : Few q k) (w : World) (h : RatV w a P b Q q) (hg : Good w) :
    Calls Tryz.prog 9 #[.agg #[.int .i64 a, .pointer P, .int .i64 b, .pointer Q], .string (ratTxt q)] w fun e w' => e = .returned (.bool true) ∧ Below w.heap.size w w' :=
  is_true a P b Q q _ w h (Nat.lt_of_lt_of_le hf.n (ten_le (by omega))) (Nat.lt_of_lt_of_le hf.d (ten_le (by omega))) rfl hg
theorem right_two (s t : ByteArray) (w : World) (hs : s.size ≤ 9223372036854775807) (ht : t.size ≤ 9223372036854775807) :
    Calls Tryz.prog 5 #[.slice (some ⟨w.heap.size, 0, none⟩) 2 2] (w.alloc (.cells #[.string s, .string t] 9)) (RightR [s, t] (w.alloc (.cells #[.string s, .string t] 9))) :=
  rright_any [s, t] w.heap.size 2 _ rfl (by decide) (by decide) (by simp) (fun k u h => by
    match k, h with
    | 0, h => simp at h; subst h; simp [go_sem]
    | 1, h => simp at h; subst h; simp [go_sem]) (fun u h => by
    rcases List.mem_cons.1 h with rfl | h
    · exact hs
    · rw [List.mem_singleton.1 h]; exact ht)
theorem rat_zero0 (w : World) : RatV w 0 none 0 none 0 := ⟨small_int ⟨by decide, by decide⟩, small_int ⟨by decide, by decide⟩⟩
set_option maxHeartbeats 4000000 in
theorem refMulF_any {p q : Rat} {k m : Nat} (hp : Few p k) (hq : Few q m) (hk : k ≤ 900) (hm : m ≤ 900) (w : World) : Calls Tryz.prog 29 #[.string (ratTxt p), .string (ratTxt q)] w fun e w' => e = .returned (.string (ratTxt (p * q))) ∧ Below w.heap.size w w' := by
  have n1 := hp.ns hk
  have n2 := hp.ds hk
  have m1 := hq.ns hm
  have m2 := hq.ds hm
  have pp := p.den_pos
  have qp := q.den_pos
  have pn := hp.n
  have pd := hp.di
  have qn := hq.n
  have qd := hq.di
  have HP := Lib.hid (fun w => refParts_any p w (by omega) (by omega))
  have HQ := Lib.hid (fun w => refParts_any q w (by omega) (by omega))
  have HA := Lib.hid (fun w => refMul_any p.num q.num w (by omega) (by omega))
  have HB := Lib.hid (fun w => refMul_any (p.den : Int) (q.den : Int) w (by omega) (by omega))
  have HC := Lib.hid (fun w => refRat_any (p.num * q.num) ((p.den : Int) * (q.den : Int)) w (Nat.lt_of_lt_of_le (ten_mul (by assumption) (by assumption)) (ten_le (by omega))) (Nat.lt_of_lt_of_le (ten_mul (by assumption) (by assumption)) (ten_le (by omega))) (Int.mul_ne_zero (by omega) (by omega)))
  rw [show Rat.divInt (p.num * q.num) ((p.den : Int) * (q.den : Int)) = p * q from by rw [rat_prod, Int.natCast_mul]] at HC
  clear n1 n2 m1 m2 hp hq pn pd qn qd pp qp hk hm
  generalize ratTxt (p * q) = X at HC ⊢
  generalize txt (p.num * q.num) = A at HA HC
  generalize txt ((p.den : Int) * (q.den : Int)) = B at HB HC
  generalize txt p.num = A1 at HP HA HB
  generalize txt (p.den : Int) = A2 at HP HA HB
  generalize txt q.num = B1 at HQ HA HB
  generalize txt (q.den : Int) = B2 at HQ HA HB
  generalize ratTxt p = T1 at HP ⊢
  generalize ratTxt q = T2 at HQ ⊢
  go_enter Tryz.func29, Tryz.ntmps29
  go_wp2_with fail
  refine (HP.out _).mono ?_
  rintro e w1 ⟨rfl, h1⟩
  have K := Lib.hid h1
  clear h1
  go_wp2_with fail
  refine (HQ.out _).mono ?_
  rintro e w2 ⟨rfl, h1⟩
  replace K := Lib.hid (below_on K.out h1)
  clear h1
  go_wp2_with fail
  refine (HA.out _).mono ?_
  rintro e w3 ⟨rfl, h1⟩
  replace K := Lib.hid (below_on K.out h1)
  clear h1
  go_wp2_with fail
  refine (HB.out _).mono ?_
  rintro e w4 ⟨rfl, h1⟩
  replace K := Lib.hid (below_on K.out h1)
  clear h1
  go_wp2_with fail
  refine (HC.out _).mono ?_
  rintro e w5 ⟨rfl, h1⟩
  replace K := Lib.hid (below_on K.out h1)
  clear h1
  go_wp2
  go_ret
  exact ⟨rfl, K.out⟩
theorem rat_negs (p : Rat) : Rat.divInt (-p.num) (p.den : Int) = -p := by
  have h := rat_self (-p)
  rw [Rat.neg_num, Rat.neg_den] at h
  exact h
set_option maxHeartbeats 4000000 in
theorem refNegR_any {p : Rat} {k : Nat} (hp : Few p k) (hk : k ≤ 900) (w : World) : Calls Tryz.prog 58 #[.string (ratTxt p)] w fun e w' => e = .returned (.string (ratTxt (-p))) ∧ Below w.heap.size w w' := by
  have n1 := hp.ns hk
  have n2 := hp.ds hk
  have pp := p.den_pos
  have HP := Lib.hid (fun w => refParts_any p w (by omega) (by omega))
  have HA := Lib.hid (fun w => refNeg_any p.num w (by omega))
  have HC := Lib.hid (fun w => refRat_any (-p.num) (p.den : Int) w (by rw [Int.natAbs_neg]; exact Nat.lt_of_lt_of_le hp.n (ten_le (by omega))) (Nat.lt_of_lt_of_le hp.di (ten_le (by omega))) (by omega))
  rw [rat_negs] at HC
  clear n1 n2 hp pp hk
  generalize ratTxt (-p) = X at HC ⊢
  generalize txt (-p.num) = A at HA HC
  generalize txt p.num = A1 at HP HA
  generalize txt (p.den : Int) = A2 at HP HC
  generalize ratTxt p = T1 at HP ⊢
  go_enter Tryz.func58, Tryz.ntmps58
  go_wp2_with fail
  refine (HP.out _).mono ?_
  rintro e w1 ⟨rfl, h1⟩
  have K := Lib.hid h1
  clear h1
  go_wp2_with fail
  refine (HA.out _).mono ?_
  rintro e w2 ⟨rfl, h1⟩
  replace K := Lib.hid (below_on K.out h1)
  clear h1
  go_wp2_with fail
  refine (HC.out _).mono ?_
  rintro e w3 ⟨rfl, h1⟩
  replace K := Lib.hid (below_on K.out h1)
  clear h1
  go_wp2
  go_ret
  exact ⟨rfl, K.out⟩
/-- The magnitude. -/
def rabs (q : Rat) : Rat := if q.num < 0 then -q else q
theorem rabs_num (q : Rat) : (rabs q).num = (q.num.natAbs : Int) := by
  unfold rabs
  split
  · rw [Rat.neg_num]; omega
  · omega
theorem rabs_den (q : Rat) : (rabs q).den = q.den := by
  unfold rabs
  split
  · rw [Rat.neg_den]
  · rfl
theorem Few.abs {q : Rat} {k : Nat} (h : Few q k) : Few (rabs q) k := ⟨by rw [rabs_num, Int.natAbs_natCast]; exact h.n, by rw [rabs_den]; exact h.d⟩
end Go.Proofs.YtbpbfjnndkoioaaGreatDoor
