/- divNatural: its walk for long divisors. -/
import Derived.Test.YtegndbiglehacaaDoorDivD
import Derived.Test.YtegndbiglehacaaDoorBits
import Derived.Test.YtegndbiglehacaaDoorArith
namespace Go.Proofs.YtegndbiglehacaaDoor
open Go.RowKit

theorem cmpN_ge {a b : Nat} (h : b ≤ a) : 0 ≤ cmpN a b := by
  unfold cmpN
  rw [if_neg (by omega)]
  split <;> omega
/-- Quotient and rest of two numbers, made by a call. -/
def DivNat (m m' : Nat) (w : World) (e : Ending) (w' : World) : Prop :=
  ∃ (A1 : Option Addr) (n1 c1 : Nat) (zs : List Nat) (A2 : Option Addr) (n2 c2 : Nat) (us : List Nat), e = .returned (.tuple #[.slice A1 n1 c1, .slice A2 n2 c2]) ∧ IsNat 0 w' A1 n1 c1 zs (m / m') ∧ IsNat 0 w' A2 n2 c2 us (m % m') ∧ Below w.heap.size w w'
set_option maxRecDepth 100000 in
set_option maxHeartbeats 4000000 in
theorem div_less {B B' : Nat} {A A' : Option Addr} {n c n' c' m m' : Nat} {xs ys : List Nat} (w : World) (hx : IsNat B w A n c xs m) (hy : IsNat B' w A' n' c' ys m') (h : m < m') :
    Calls Tryd.prog 63 #[.slice A n c, .slice A' n' c'] w (DivNat m m' w) := by
  have Hc := Lib.hid (compareNat_any w hx hy)
  rw [cmpN_lt h] at Hc
  have Hx := Lib.hid hx
  have H := Lib.hid h
  clear hx hy h
  go_enter Tryd.func63, Tryd.ntmps63
  go_wp2_with fail
  refine Hc.out.mono ?_
  rintro e w1 ⟨rfl, h1⟩
  have H1 := Lib.hid h1
  clear h1
  go_wp2
  go_ret2
  exact ⟨none, 0, 0, [], A, n, c, xs, rfl, by rw [Nat.div_eq_of_lt H.out]; exact IsNat.zero _ _, by rw [Nat.mod_eq_of_lt H.out]; exact (Hx.out.keep H1.out).mono (Nat.zero_le _), H1.out⟩
theorem one_blk (w : World) (r : Nat) : Blk (w.alloc (.cells #[.int .u64 (r : Int)] 75)) w.heap.size [r] := ⟨#[.int .u64 (r : Int)], heap_new w _, rfl⟩
set_option maxRecDepth 100000 in
set_option maxHeartbeats 4000000 in
theorem div_one {B B' : Nat} {A A' : Option Addr} {n c c' m m' : Nat} {xs ys : List Nat} (w : World) (hx : IsNat B w A n c xs m) (hy : IsNat B' w A' 1 c' ys m') (h : m' ≤ m) (h0 : 0 < m') :
    Calls Tryd.prog 63 #[.slice A n c, .slice A' (1 : Nat) c'] w (DivNat m m' w) := by
  have Hc := Lib.hid (compareNat_any w hx hy)
  obtain ⟨x, hxc⟩ : ∃ x, cmpN m m' = x := ⟨_, rfl⟩
  have hx0 : 0 ≤ x := by rw [← hxc]; exact cmpN_ge h
  rw [hxc] at Hc
  have hn0 : 0 < n := by
    rcases Nat.eq_zero_or_pos n with h1 | h1
    · have := hx.zero_iff.1 h1; omega
    · exact h1
  have hnl := hx.len
  have hxl := hx.size
  obtain ⟨d, rfl⟩ : ∃ d, ys = [d] := List.length_eq_one_iff.mp hy.size
  have hd : d = m' := by have := hy.val; simpa [natVal] using this
  subst hd
  have hd1 : d < 18446744073709551616 := hy.words d (by simp)
  have hcl' := hy.isl.2.1
  obtain ⟨b', o', rfl, hb', _, hcell⟩ := hy.at (by decide)
  have cy := hcell 0 (by decide)
  have cy2 : w.cell? ⟨b', o', none⟩ = some (.int .u64 (d : Int)) := cy
  have Hcy := Lib.hid cy2
  have Hcl := Lib.hid (fun w1 (hb : Below w.heap.size w w1) => clone_some A n c xs w1 (hx.isl.keep hb) hn0 (by omega))
  have Hx := Lib.hid hx
  have Hxl := Lib.hid hxl
  have H := Lib.hid h
  have hcn := hx.isl.2.1
  have hcc := hx.cap
  clear hx hy h hxc hcell cy cy2 hxl
  go_enter Tryd.func63, Tryd.ntmps63
  go_wp2_with fail
  refine Hc.out.mono ?_
  rintro e w1 ⟨rfl, h1⟩
  have H1 := Lib.hid h1
  clear h1
  go_wp2_with fail
  refine (Hcl.out _ H1.out).mono ?_
  rintro e w2 ⟨g, cg, rfl, hnc, hcm, hg, hblk, h2⟩
  have H2 := Lib.hid (below_on H1.out h2)
  have cy := (H2.out.cell (p := ⟨b', o', none⟩) hb').trans Hcy.out
  have Hdd := Lib.hid (divDigit_any g 0 n cg xs d w2 hblk (by rw [Hxl.out]; omega) Hx.out.words h0 hd1 (by omega) (by decide))
  have Hgw := Lib.hid (Nat.le_trans H1.out.size hg)
  clear h2 hblk hg
  go_wp2_with fail
  refine Hdd.out.mono ?_
  rintro e w3 ⟨zs, r, rfl, hzl, hr, hzw, hzv, hzb, hon⟩
  rw [put_all (by rw [hzl, Hxl.out])] at hzb
  rw [List.drop_zero, List.take_of_length_le (by rw [Hxl.out]; exact Nat.le_refl _), Hx.out.val] at hzv
  have H3 := Lib.hid (Below.only H2.out hon Hgw.out H2.out.size)
  have hq : natVal zs = m / d := by
    rw [hzv, Nat.mul_comm, Nat.mul_add_div h0, Nat.div_eq_of_lt hr, Nat.add_zero]
  have hrr : r = m % d := by
    rw [hzv, Nat.mul_comm, Nat.mul_add_mod, Nat.mod_eq_of_lt hr]
  have hisl := hzb.isL (o := 0) (n := n) (c := cg) (by omega) hnc
  rw [List.drop_zero, List.take_of_length_le (by omega)] at hisl
  have Ht1 := Lib.hid (trimNat_any _ _ _ zs w3 hisl (by omega) (by omega))
  have Hq := Lib.hid (nat_of_blk (B := 0) hzb hzl hnc (by omega) (by omega) hzw hq (Nat.zero_le _))
  have hrb := one_blk w3 r
  have hisl2 := hrb.isL (o := 0) (n := 1) (c := 1) (by simp) (by decide)
  have Ht2 := Lib.hid (trimNat_any _ _ _ [r] (w3.alloc (.cells #[.int .u64 (r : Int)] 75)) hisl2 (by decide) (by decide))
  have Hr := Lib.hid (nat_of_blk (B := 0) (n := 1) (c := 1) hrb rfl (by decide) (by decide) (by decide) (fun x hx => by rw [List.mem_singleton.1 hx]; omega) (show natVal [r] = m % d by simp [natVal, hrr]) (Nat.zero_le _))
  have K3 := Lib.hid ((Below.refl w3.heap.size w3).alloc (Nat.le_refl _) (.cells #[.int .u64 (r : Int)] 75))
  clear hzw hzv hzb hon hq hrr hisl hrb hisl2 cy
  go_wp2_with fail
  refine Ht1.out.mono ?_
  rintro e w4 ⟨rfl, rfl⟩
  go_wp2_with fail
  refine Ht2.out.mono ?_
  rintro e w5 ⟨rfl, rfl⟩
  go_wp2
  go_ret2
  exact ⟨_, _, _, _, _, _, _, _, rfl, Hq.out.keep K3.out, Hr.out, below_on H3.out K3.out⟩
/-- The words of a quotient: zeros, and then the words that are found. -/
def wquo (j : Nat) (q : List Nat) : List Nat := List.replicate j 0 ++ q
theorem wquo_len (j : Nat) (q : List Nat) : (wquo j q).length = j + q.length := by simp [wquo]
theorem wquo_set (i t : Nat) (q : List Nat) : (wquo (i + 1) q).set i t = wquo i (t :: q) := by
  unfold wquo
  rw [List.replicate_succ', List.append_assoc, List.set_append_right _ _ (by simp)]
  simp
theorem drop_val {xs : List Nat} {i x : Nat} (hx : xs.getD i 0 = x) (hi : i < xs.length) : natVal (xs.drop i) = x + 18446744073709551616 * natVal (xs.drop (i + 1)) := by
  have e : xs[i] = x := by rw [← hx]; simp [List.getD, hi]
  rw [List.drop_eq_getElem_cons hi, e, natVal]
/-- The window of a step holds all of the rest. -/
theorem window {R : List Nat} {i k v : Nat} (hR : i + (k + 3) ≤ R.length) (hw : Words R) (hv : natVal (R.drop (i + 1)) < v) (hvb : v ≤ base (k + 2)) :
    natVal (R.drop i) < 18446744073709551616 * v ∧ natVal ((R.drop i).take (k + 3)) = natVal (R.drop i) ∧ natVal ((R.drop i).drop (k + 3)) = 0 := by
  obtain ⟨x, hx⟩ : ∃ x, R.getD i 0 = x := ⟨_, rfl⟩
  have hx1 := word_at hw i
  rw [hx] at hx1
  have e := drop_val hx (by omega)
  have hlt : natVal (R.drop i) < 18446744073709551616 * v := by omega
  have hs := natVal_split (R.drop i) (k + 3)
  rw [take_len (by omega)] at hs
  have hb : base (k + 3) = 18446744073709551616 * base (k + 2) := base_succ (k + 2)
  have h0 : natVal ((R.drop i).drop (k + 3)) = 0 := by
    rcases Nat.eq_zero_or_pos (natVal ((R.drop i).drop (k + 3))) with h | h
    · exact h
    · exfalso
      have : base (k + 3) * 1 ≤ base (k + 3) * natVal ((R.drop i).drop (k + 3)) := Nat.mul_le_mul_left _ h
      omega
  rw [h0, Nat.mul_zero, Nat.add_zero] at hs
  exact ⟨hlt, hs.symm, h0⟩
theorem window_put {R rs : List Nat} {i k q v M Qv : Nat} (hR : i + (k + 3) ≤ R.length) (hl : rs.length = k + 3) (h0 : natVal ((R.drop i).drop (k + 3)) = 0) (hw : natVal ((R.drop i).take (k + 3)) = natVal (R.drop i)) (hq : natVal ((R.drop i).take (k + 3)) = q * v + natVal rs)
    (hM : M = base (i + 1) * Qv * v + natVal R) : M = base i * (q + 18446744073709551616 * Qv) * v + natVal (put R i rs) ∧ natVal ((put R i rs).drop i) = natVal rs := by
  have e1 : (put R i rs).drop i = rs ++ R.drop (i + rs.length) := by
    unfold put
    rw [List.append_assoc, List.drop_append, List.drop_eq_nil_of_le (by simp; omega), List.nil_append]
    have e : i - (List.take i R).length = 0 := by simp; omega
    rw [e, List.drop_zero]
  have e2 : natVal ((put R i rs).drop i) = natVal rs := by
    rw [e1, natVal_append, hl, ← List.drop_drop, h0, Nat.mul_zero, Nat.add_zero]
  refine ⟨?_, e2⟩
  have s1 := natVal_split R i
  have s2 := natVal_split (put R i rs) i
  have e3 : (put R i rs).take i = R.take i := by
    unfold put
    rw [List.append_assoc, List.take_append_of_le_length (by simp; omega), List.take_take, Nat.min_self]
  rw [e3, e2] at s2
  rw [← hw, hq] at s1
  have l1 : (R.take i).length = i := by simp; omega
  rw [l1] at s1 s2
  rw [hM, s1, s2, base_succ]
  simp only [Nat.mul_add, Nat.add_mul, Nat.mul_assoc, Nat.mul_left_comm]
  omega
/-- The divisor, shifted: its top word. -/
theorem shifted_top {ys : List Nat} {k y s m' : Nat} (hl : ys.length = k + 2) (hw : Words ys) (hy : ys.getD (k + 1) 0 = y) (hv : natVal ys = m') (_hs : s < 64) (h1 : 9223372036854775808 ≤ y * 2 ^ s) (h2 : (y + 1) * 2 ^ s ≤ 18446744073709551616) :
    m' * 2 ^ s < base (k + 2) ∧ 9223372036854775808 * base (k + 1) ≤ m' * 2 ^ s := by
  have e := take_up0 (xs := ys) (k := k + 1) hy
  rw [List.take_of_length_le (by omega), hv] at e
  have hlo := natVal_lt (words_take hw (k + 1))
  rw [List.length_take, Nat.min_eq_left (by omega)] at hlo
  have hp : 0 < 2 ^ s := Nat.pow_pos (by decide)
  constructor
  · have h3 : m' < base (k + 1) * (y + 1) := by rw [Nat.mul_add, Nat.mul_one]; omega
    have h4 := Nat.mul_lt_mul_of_pos_right h3 hp
    have h5 := Nat.mul_le_mul_left (base (k + 1)) h2
    rw [show base (k + 2) = 18446744073709551616 * base (k + 1) from base_succ (k + 1)]
    rw [Nat.mul_assoc] at h4
    omega
  · have h3 : base (k + 1) * y ≤ m' := by omega
    have h4 := Nat.mul_le_mul_right (2 ^ s) h3
    have h5 := Nat.mul_le_mul_left (base (k + 1)) h1
    rw [Nat.mul_assoc] at h4
    omega
theorem lead_bits {y s : Nat} (h0 : y ≠ 0) (hy : y < 18446744073709551616) (hs : 64 - Lib.bitLen y = s) : s < 64 ∧ 9223372036854775808 ≤ y * 2 ^ s ∧ (y + 1) * 2 ^ s ≤ 18446744073709551616 := by
  obtain ⟨a, b, c, d⟩ := bitLen_spec 64 y h0 (by simpa using hy) (Nat.le_refl _)
  have hs64 : s < 64 := by omega
  have hb : Lib.bitLen y = 64 - s := by omega
  rw [hb] at a b
  refine ⟨hs64, ?_, ?_⟩
  · have e63 : 2 ^ (64 - s - 1) * 2 ^ s = 9223372036854775808 := by rw [← Nat.pow_add, show 64 - s - 1 + s = 63 by omega]
    rw [← e63]; exact Nat.mul_le_mul_right _ a
  · rw [← pow_split hs64]; exact Nat.mul_le_mul_right _ b
theorem top_word {zs : List Nat} {k t V : Nat} (hl : zs.length = k + 2) (hw : Words zs) (ht : zs.getD (k + 1) 0 = t) (hv : natVal zs = V) (h : 9223372036854775808 * base (k + 1) ≤ V) : 9223372036854775808 ≤ t := by
  have e := take_up0 (xs := zs) (k := k + 1) ht
  rw [List.take_of_length_le (by omega), hv] at e
  have hlo := natVal_lt (words_take hw (k + 1))
  rw [List.length_take, Nat.min_eq_left (by omega)] at hlo
  rcases Nat.lt_or_ge t 9223372036854775808 with h1 | h1
  · exfalso
    have h2 := Nat.mul_le_mul_left (base (k + 1)) (show t + 1 ≤ 9223372036854775808 from h1)
    rw [Nat.mul_add, Nat.mul_one] at h2
    rw [Nat.mul_comm _ 9223372036854775808] at h2
    omega
  · exact h1
theorem take_val {zs : List Nat} {n : Nat} (hl : zs.length = n + 1) (h : natVal zs < base n) : natVal (zs.take n) = natVal zs := by
  have e := natVal_split zs n
  have l : (zs.take n).length = n := by simp; omega
  rw [l] at e
  rcases Nat.eq_zero_or_pos (natVal (zs.drop n)) with h0 | h0
  · rw [h0, Nat.mul_zero, Nat.add_zero] at e; exact e.symm
  · exfalso
    have : base n * 1 ≤ base n * natVal (zs.drop n) := Nat.mul_le_mul_left _ h0
    omega
/-- Where the loop begins: the top words of the rest are less than the divisor. -/
theorem start_less {R : List Nat} {n N k m s V : Nat} (hR : R.length = n + 1) (hN : N + (k + 2) = n + 1) (hv : natVal R = m * 2 ^ s) (hm : m < base n) (hs : s < 64) (hV : 9223372036854775808 * base (k + 1) ≤ V) : natVal (R.drop N) < V := by
  have e := natVal_split R N
  have l : (R.take N).length = N := by simp; omega
  rw [l, hv] at e
  have h1 : m * 2 ^ s < base n * 9223372036854775808 := by
    have h2 : 2 ^ s ≤ 2 ^ 63 := Nat.pow_le_pow_right (by decide) (by omega)
    have h3 : m * 2 ^ s < base n * 2 ^ s := Nat.mul_lt_mul_of_pos_right hm (Nat.pow_pos (by decide))
    have h4 : base n * 2 ^ s ≤ base n * 2 ^ 63 := Nat.mul_le_mul_left _ h2
    exact Nat.lt_of_lt_of_le h3 h4
  have h5 : base n = base N * base (k + 1) := by
    have : n = N + (k + 1) := by omega
    rw [this]; unfold base; rw [Nat.pow_add]
  have h6 : base N * natVal (R.drop N) < base N * V := by
    have h7 := Nat.mul_le_mul_left (base N) hV
    rw [h5, Nat.mul_assoc, Nat.mul_comm (base (k + 1))] at h1
    omega
  exact Nat.lt_of_mul_lt_mul_left h6
/-- What the loop leaves. -/
theorem long_end {m m' s Q R : Nat} (h : m * 2 ^ s = Q * (m' * 2 ^ s) + R) (hR : R < m' * 2 ^ s) : Q = m / m' ∧ R = (m % m') * 2 ^ s := by
  have hp : 0 < 2 ^ s := Nat.pow_pos (by decide)
  have hm' : 0 < m' := by
    rcases Nat.eq_zero_or_pos m' with h0 | h0
    · subst h0; omega
    · exact h0
  have hQ : Q * m' ≤ m := by
    have : Q * m' * 2 ^ s ≤ m * 2 ^ s := by rw [Nat.mul_assoc]; omega
    exact Nat.le_of_mul_le_mul_right this hp
  obtain ⟨r, hr⟩ : ∃ r, m = Q * m' + r := ⟨m - Q * m', by omega⟩
  have e : R = r * 2 ^ s := by
    rw [hr, Nat.add_mul, Nat.mul_assoc] at h
    omega
  have hrm : r < m' := by
    rw [e] at hR
    exact Nat.lt_of_mul_lt_mul_right hR
  have hd : m / m' = Q := by rw [hr, Nat.mul_comm, Nat.mul_add_div hm', Nat.div_eq_of_lt hrm, Nat.add_zero]
  have hmod : m % m' = r := by rw [hr, Nat.mul_comm, Nat.mul_add_mod, Nat.mod_eq_of_lt hrm]
  exact ⟨hd.symm, by rw [hmod, e]⟩
theorem Blk.only {w w' : World} {g g' : Nat} {xs : List Nat} (h : Blk w g xs) (ho : Only g' w w') (hg : g ≠ g') : Blk w' g xs := by
  have hlt := h.lt
  obtain ⟨cur, h1, h2⟩ := h
  exact ⟨cur, (ho.block g hlt hg).trans h1, h2⟩
theorem Blk.set_other {w : World} {g g' : Nat} {xs : List Nat} (h : Blk w g xs) (hg : g ≠ g') (i : Nat) (u : Value) : Blk (w.setCell ⟨g', i, none⟩ u) g xs := by
  obtain ⟨cur, h1, h2⟩ := h
  exact ⟨cur, (Below.heap_setCell w ⟨g', i, none⟩ u g hg).trans h1, h2⟩
def LongInv (w0 : World) (gr gq n N M V : Nat) (vi : Value) (wr : World) : Prop :=
  ∃ (j : Nat) (R Q : List Nat), vi = .int .i64 ((j : Int) - 1) ∧ R.length = n + 1 ∧ Words R ∧ Blk wr gr R ∧ Q.length + j = N ∧ Words Q ∧ Blk wr gq (wquo j Q) ∧ M = base j * natVal Q * V + natVal R ∧ natVal (R.drop j) < V ∧ Below w0.heap.size w0 wr
set_option maxRecDepth 100000 in
set_option maxHeartbeats 8000000 in
theorem div_long {B B' : Nat} {A A' : Option Addr} {n c k c' m m' : Nat} {xs ys : List Nat} (w : World) (hx : IsNat B w A n c xs m) (hy : IsNat B' w A' (k + 2) c' ys m') (h : m' ≤ m) (hn : n < 450) :
    Calls Tryd.prog 63 #[.slice A n c, .slice A' (k + 2 : Nat) c'] w (DivNat m m' w) := by
  obtain ⟨i0, hi, hz0, hz1, hz2⟩ := info_parts info_u64
  have Hc := Lib.hid (compareNat_any w hx hy)
  obtain ⟨x, hxc⟩ : ∃ x, cmpN m m' = x := ⟨_, rfl⟩
  have hx0 : 0 ≤ x := by rw [← hxc]; exact cmpN_ge h
  rw [hxc] at Hc
  have hkn : k + 2 ≤ n := by
    rcases Nat.lt_or_ge n (k + 2) with h1 | h1
    · exfalso
      have := cmp_len hx.words hy.tight (by rw [hx.size, hy.size]; exact h1)
      rw [hx.val, hy.val] at this
      omega
    · exact h1
  have hm : m < base n := by have := natVal_lt hx.words; rwa [hx.size, hx.val] at this
  obtain ⟨b', o', rfl, hb', _, hcell⟩ := hy.at (by omega)
  obtain ⟨y, hyt⟩ : ∃ y, ys.getD (k + 1) 0 = y := ⟨_, rfl⟩
  obtain ⟨hy0, hy1, _⟩ := len2_top (n := k + 1) hy.words hy.size hy.tight hyt hy.val
  have hcy := hcell (k + 1) (by omega)
  rw [hyt] at hcy
  obtain ⟨s, hs⟩ : ∃ s, 64 - Lib.bitLen y = s := ⟨_, rfl⟩
  obtain ⟨hs64, hs1, hs2⟩ := lead_bits (by omega) hy1 hs
  obtain ⟨ht1, ht2⟩ := shifted_top hy.size hy.words hyt hy.val hs64 hs1 hs2
  have Hlz := Lib.hid (lz_at y s hy1 (by omega) hs)
  have Hsb := Lib.hid (fun w1 (hb : Below w.heap.size w w1) => shiftLeft_any _ (k + 2) c' s ys w1 (hy.isl.keep hb) hy.words (by omega) (by omega) hs64)
  have Hsa := Lib.hid (fun w1 (hb : Below w.heap.size w w1) => shiftLeft_any A n c s xs w1 (hx.isl.keep hb) hx.words (by omega) (by omega) hs64)
  have Hcy := Lib.hid hcy
  have Hxv := Lib.hid hx.val
  have Hyv := Lib.hid hy.val
  have Ht1 := Lib.hid ht1
  have Ht2 := Lib.hid ht2
  have Hm := Lib.hid hm
  have hcn := hx.isl.2.1
  have hcc := hx.cap
  have hcn' := hy.isl.2.1
  have hcc' := hy.cap
  have t0 : (((k + 2 : Nat) : Int) == 1) = false := by rw [beq_eq_false_iff_ne]; omega
  have t1 : ((k : Int) + 2 == 1) = false := by rw [beq_eq_false_iff_ne]; omega
  have hs63 : (s : Int) ≤ 63 := by omega
  clear hx hy h hxc hcell hyt hcy hs hs1 hs2 ht1 ht2 hm
  go_enter Tryd.func63, Tryd.ntmps63
  go_wp2_with fail
  refine Hc.out.mono ?_
  rintro e w1 ⟨rfl, h1⟩
  have H1 := Lib.hid h1
  have cy := (h1.cell (p := ⟨b', o' + (k + 1), none⟩) hb').trans Hcy.out
  clear h1
  go_wp2_with fail
  refine (Hlz.out _).mono ?_
  rintro e w1 ⟨rfl, rfl⟩
  clear cy
  go_wp2_with fail
  refine (Hsb.out _ H1.out).mono ?_
  rintro e w2 ⟨g1, zs1, rfl, hg1, hl1, hw1, hv1, hb1, h2⟩
  have H2 := Lib.hid (below_on H1.out h2)
  clear h2
  have Hb1 := Lib.hid hb1
  have Hl1 := Lib.hid hl1
  have Hw1 := Lib.hid hw1
  have Hv1 := Lib.hid hv1
  clear hb1 hl1 hw1 hv1
  go_wp2_with fail
  refine (Hsa.out _ H2.out).mono ?_
  rintro e w3 ⟨gr, zs2, rfl, hgr, hl2, hw2, hv2, hb2, h3⟩
  have H3 := Lib.hid (below_on H2.out h3)
  have H3' := Lib.hid h3
  have Hb2 := Lib.hid hb2
  have hgr3 := hb2.lt
  have Hl2 := Lib.hid hl2
  have Hw2 := Lib.hid hw2
  have Hv2 := Lib.hid hv2
  clear h3 hb2 hl2 hw2 hv2
  obtain ⟨N, hN⟩ : ∃ N, N + (k + 2) = n + 1 := ⟨n + 1 - (k + 2), by omega⟩
  have hNI : (n : Int) - ((k : Int) + 2) + 1 = (N : Int) := by omega
  go_wp2_with (at_make; refine wpList_make_full _ rfl _ _ 60 rfl w3.heap.size 75 i0 (.int .u64 0) 1 Tryd.underlying60 hi hz0 hz1 _ _ _ _ N rfl rfl (by simp) (by simp) (by rw [hz2]; omega) (by unfold maxLen; omega) (Nat.le_refl _) ?_)
  intro w4 hown hgrow
  rw [zeros_u64] at hown
  have Hblk := Lib.hid (show Blk w4 w3.heap.size (List.replicate N 0) by
    obtain ⟨g, c, e, _, _, hg, hb⟩ := Blk.of_own hown (by omega)
    injection e with e1 e2 e3
    injection e1 with e1
    injection e1 with e1
    subst e1
    exact hb)
  have B4 := Lib.hid ((Below.refl w3.heap.size w3).grown hgrow (Nat.le_refl _) (by simp))
  have hV := take_val Hl1.out (show natVal zs1 < base (k + 2) by rw [Hv1.out, Hyv.out]; exact Ht1.out)
  rw [Hv1.out, Hyv.out] at hV
  have HV := Lib.hid hV
  have Hys := Lib.hid (show (zs1.take (k + 2)).length = k + 2 by rw [List.length_take, Hl1.out]; omega)
  have Hyw := Lib.hid (words_take Hw1.out (k + 2))
  have Hyl := Lib.hid (show IsL w2 (some ⟨g1, 0, none⟩) (k + 2) (k + 2 + 1) (u64s (zs1.take (k + 2))) by
    have := Hb1.out.isL (o := 0) (n := k + 2) (c := k + 2 + 1) (by rw [Hl1.out]; omega) (by omega)
    rwa [List.drop_zero] at this)
  have Htop := Lib.hid (top_word Hys.out Hyw.out rfl hV Ht2.out)
  have hg12 := Hb1.out.lt
  have hgr2 : w2.heap.size ≤ gr := hgr
  have Hq0 := Lib.hid (show LongInv w2 gr w3.heap.size n N (m * 2 ^ s) (m' * 2 ^ s) (.int .i64 ((N : Int) - 1)) w4 from
    ⟨N, zs2, [], rfl, Hl2.out, Hw2.out, Hb2.out.below B4.out hgr3, by simp, fun d hd => absurd hd (by simp), by unfold wquo; rw [List.append_nil]; exact Hblk.out, by rw [Hv2.out, Hxv.out]; simp [natVal],
      start_less Hl2.out hN (by rw [Hv2.out, Hxv.out]) Hm.out hs64 Ht2.out, below_on H3'.out B4.out⟩)
  have hw23 := H3'.out.size
  clear hown hgrow hV hgr
  go_wp2_with fail
  go_loopw [9] (fun vi wr => LongInv w2 gr w3.heap.size n N (m * 2 ^ s) (m' * 2 ^ s) vi wr) (fun vi _ => (intOf vi + 1).toNat)
  case atStart => exact Hq0.out
  case round =>
    obtain ⟨j, R, Q, rfl, hR, hRw, hRb, hQ, hQw, hQb, hM, hlt, hbel⟩ := hrel
    have HR := Lib.hid hR
    have HRw := Lib.hid hRw
    have HRb := Lib.hid hRb
    have HQ := Lib.hid hQ
    have HQw := Lib.hid hQw
    have HQb := Lib.hid hQb
    have HM := Lib.hid hM
    have Hlt := Lib.hid hlt
    have Hbel := Lib.hid hbel
    clear hR hRw hRb hQ hQw hQb hM hlt hbel
    cases j with
    | zero =>
      have hM := HM.out
      have hlt := Hlt.out
      rw [List.drop_zero] at hlt
      rw [base_zero, Nat.one_mul] at hM
      obtain ⟨hq, hr⟩ := long_end hM hlt
      have hQN : Q.length = N := by have := HQ.out; omega
      have Hshr := Lib.hid (shiftRight_any gr (n + 1) (n + 1) s (m % m') R wr HRb.out HR.out HRw.out (by omega) (Nat.le_refl _) hs64 hr)
      have HQN := Lib.hid hQN
      have Hqv := Lib.hid hq
      have hqbl := HQb.out.lt
      clear hM hlt hq hr hQN
      go_wp2_with fail
      refine Hshr.out.mono ?_
      rintro e w5 ⟨rfl, ⟨zs, hzl, hzw, hzv, hzb⟩, hon⟩
      have hq5 := HQb.out.only hon (by omega)
      rw [show wquo 0 Q = Q from rfl] at hq5
      have hi1 := hq5.isL (o := 0) (n := N) (c := N) (by rw [HQN.out]; omega) (Nat.le_refl _)
      rw [List.drop_zero, List.take_of_length_le (by rw [HQN.out]; exact Nat.le_refl _)] at hi1
      have hi2 := hzb.isL (o := 0) (n := n + 1) (c := n + 1) (by omega) (Nat.le_refl _)
      rw [List.drop_zero, List.take_of_length_le (by omega)] at hi2
      have Htr1 := Lib.hid (trimNat_any _ _ _ Q w5 hi1 (by omega) (by omega))
      have Htr2 := Lib.hid (trimNat_any _ _ _ zs w5 hi2 (by omega) (by omega))
      have Hq := Lib.hid (nat_of_blk (B := 0) hq5 HQN.out (Nat.le_refl N) (by omega) (by omega) HQw.out Hqv.out (Nat.zero_le _))
      have Hr := Lib.hid (nat_of_blk (B := 0) hzb hzl (Nat.le_refl (n + 1)) (by omega) (by omega) hzw hzv (Nat.zero_le _))
      have Hbf := Lib.hid (below_on H2.out (Below.only Hbel.out hon hgr2 Hbel.out.size))
      clear hzl hzw hzv hzb hon hq5 hi1 hi2
      go_wp2_with fail
      refine Htr1.out.mono ?_
      rintro e w6 ⟨rfl, rfl⟩
      go_wp2_with fail
      refine Htr2.out.mono ?_
      rintro e w6 ⟨rfl, rfl⟩
      go_wp2
      go_ret2
      exact ⟨_, _, _, _, _, _, _, _, rfl, Hq.out, Hr.out, Hbf.out⟩
    | succ i =>
      have hin : i + (k + 3) ≤ n + 1 := by have := HQ.out; omega
      have hiN : i < N := by have := HQ.out; omega
      obtain ⟨hwin, hw1, hw0⟩ := window (by have := HR.out; omega) HRw.out Hlt.out (Nat.le_of_lt Ht1.out)
      have Hw1' := Lib.hid hw1
      have Hw0' := Lib.hid hw0
      have Hstep := Lib.hid (divStep_any gr i k (n + 1 - i) (k + 2 + 1) (some ⟨g1, 0, none⟩) R (zs1.take (k + 2)) wr HRb.out (Hyl.out.keep Hbel.out) (fun a e => by injection e with e; subst e; show g1 ≠ gr; omega) (by have := HR.out; omega) HRw.out Hyw.out (by omega) (by omega) Htop.out (by rw [hw1, HV.out]; exact hwin) (by omega))
      rw [HV.out] at Hstep
      have hrbl := HRb.out.lt
      have hqbl := HQb.out.lt
      clear hwin hw1 hw0
      go_wp2_with fail
      rw [show i + (k + 2) + 1 - i = k + 3 by omega]
      refine Hstep.out.mono ?_
      rintro e w5 ⟨rs, q, rfl, hrl, hrw, hq, hrv, hrlt, hrb, hon⟩
      obtain ⟨e1, e2⟩ := window_put (Qv := natVal Q) (by have := HR.out; omega) hrl Hw0'.out Hw1'.out hrv HM.out
      have hq5 := HQb.out.only hon (by omega)
      have hfz := hq5.frozen i
      have hcq := hq5.cell (i := i) (by rw [wquo_len]; omega)
      obtain ⟨z0, hz0⟩ : ∃ z, (wquo (i + 1) Q).getD i 0 = z := ⟨_, rfl⟩
      rw [hz0] at hcq
      have Hnew := Lib.hid (show LongInv w2 gr w3.heap.size n N (m * 2 ^ s) (m' * 2 ^ s) (.int .i64 ((i : Int) - 1)) (w5.setCell ⟨w3.heap.size, i, none⟩ (.int .u64 (q : Int))) from
        ⟨i, put R i rs, q :: Q, rfl, by rw [put_length (by rw [hrl]; have := HR.out; omega)]; exact HR.out, words_put HRw.out hrw i, hrb.set_other (by omega) _ _, by rw [List.length_cons]; have := HQ.out; omega, fun x hx => by
          rcases List.mem_cons.1 hx with rfl | hx
          · exact hq
          · exact HQw.out x hx, by
          have := hq5.set_ q (i := i) (by rw [wquo_len]; omega)
          rwa [wquo_set] at this, by rw [natVal]; exact e1, by rw [e2]; exact hrlt, (Below.only Hbel.out hon hgr2 Hbel.out.size).setCell (p := ⟨w3.heap.size, i, none⟩) hw23 _⟩)
      clear hrl hrw hrv hrlt hrb hon e1 e2 hq5 hz0
      go_wp2_with fail
      exact ⟨by simpa using Hnew.out, by simp [intOf] <;> omega⟩
theorem divNat_any {B B' : Nat} {A A' : Option Addr} {n c n' c' m m' : Nat} {xs ys : List Nat} (w : World) (hx : IsNat B w A n c xs m) (hy : IsNat B' w A' n' c' ys m') (h0 : 0 < m') (hn : n < 450) :
    Calls Tryd.prog 63 #[.slice A n c, .slice A' n' c'] w (DivNat m m' w) := by
  rcases Nat.lt_or_ge m m' with h | h
  · exact div_less w hx hy h
  · rcases Nat.lt_or_ge n' 2 with h2 | h2
    · have h1 : n' = 1 := by
        rcases Nat.eq_zero_or_pos n' with h3 | h3
        · have := hy.zero_iff.1 h3; omega
        · omega
      subst h1
      exact div_one w hx hy h h0
    · obtain ⟨k, rfl⟩ : ∃ k, n' = k + 2 := ⟨n' - 2, by omega⟩
      exact div_long w hx hy h hn
end Go.Proofs.YtegndbiglehacaaDoor
