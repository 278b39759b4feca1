/- shiftLeft and shiftRight. -/
import Derived.Test.YtegndbiglehacaaDoorDivB
import Derived.Test.YtegndbiglehacaaDoorOps2
namespace Go.Proofs.YtegndbiglehacaaDoor
open Go.RowKit

theorem guess_some (u2 u1 u0 v1 v0 : Nat) (h1 : u1 < 18446744073709551616) (h0 : u0 < 18446744073709551616) (hv : 0 < v1) : ∃ g, Guess u2 u1 u0 v1 v0 g := by
  rcases Nat.lt_or_ge u2 v1 with h | h
  · obtain ⟨D, hD⟩ : ∃ D, 18446744073709551616 * v1 + v0 = D := ⟨_, rfl⟩
    obtain ⟨U, hU⟩ : ∃ U, 18446744073709551616 * (18446744073709551616 * u2 + u1) + u0 = U := ⟨_, rfl⟩
    have hp : 0 < D := by omega
    have hlt : U < 18446744073709551616 * D := by
      have h2 : 18446744073709551616 * (u2 + 1) ≤ 18446744073709551616 * v1 := Nat.mul_le_mul_left _ h
      omega
    refine ⟨U / D, (Nat.div_lt_iff_lt_mul hp).2 hlt, .inl ⟨h, ?_, ?_⟩⟩
    · rw [hD, hU]; exact Nat.div_mul_le_self _ _
    · rw [hD, hU, Nat.add_mul, Nat.one_mul]
      have h3 := Nat.div_add_mod U D
      have h4 := Nat.mod_lt U hp
      rw [Nat.mul_comm] at h3
      omega
  · exact ⟨18446744073709551615, by decide, .inr ⟨h, rfl⟩⟩
theorem guess_same {u2 u1 u0 v1 v0 g g' : Nat} (h : Guess u2 u1 u0 v1 v0 g) (h' : Guess u2 u1 u0 v1 v0 g') : g = g' := by
  rcases h.2 with ⟨a, b, c⟩ | ⟨a, b⟩ <;> rcases h'.2 with ⟨a', b', c'⟩ | ⟨a', b'⟩
  · rcases Nat.lt_trichotomy g g' with hl | hl | hl
    · have := Nat.mul_le_mul_right (18446744073709551616 * v1 + v0) (show g + 1 ≤ g' from hl)
      omega
    · exact hl
    · have := Nat.mul_le_mul_right (18446744073709551616 * v1 + v0) (show g' + 1 ≤ g from hl)
      omega
  · omega
  · omega
  · omega
theorem guessDigit_at (u2 u1 u0 v1 v0 g : Nat) (w : World) (h2 : u2 < 18446744073709551616) (h1 : u1 < 18446744073709551616) (h0 : u0 < 18446744073709551616) (hv1 : v1 < 18446744073709551616) (hv0 : v0 < 18446744073709551616) (hg : Guess u2 u1 u0 v1 v0 g) :
    Calls Tryd.prog 90 #[.int .u64 (u2 : Nat), .int .u64 (u1 : Nat), .int .u64 (u0 : Nat), .int .u64 (v1 : Nat), .int .u64 (v0 : Nat)] w fun e w' => e = .returned (.int .u64 (g : Nat)) ∧ ∃ n, w' = w.drewN n :=
  (guessDigit_any u2 u1 u0 v1 v0 w h2 h1 h0 hv1 hv0).mono fun e w' ⟨⟨g', h3, h4⟩, h5⟩ => ⟨by rw [h3, guess_same h4 hg], h5⟩

theorem natVal_three {l : List Nat} {m a b c : Nat} (hl : l.length = m + 3) (ha : l.getD (m + 2) 0 = a) (hb : l.getD (m + 1) 0 = b) (hc : l.getD m 0 = c) : natVal l = natVal (l.take m) + base m * (18446744073709551616 * (18446744073709551616 * a + b) + c) := by
  have e1 := take_up0 (xs := l) (k := m + 2) ha
  have e2 := take_up0 (xs := l) (k := m + 1) hb
  have e3 := take_up0 (xs := l) (k := m) hc
  rw [List.take_of_length_le (by omega)] at e1
  rw [e1, e2, e3, show base (m + 2) = 18446744073709551616 * base (m + 1) from base_succ (m + 1), base_succ m]
  simp only [Nat.mul_add, Nat.mul_assoc, Nat.mul_left_comm]
  omega
theorem natVal_two {l : List Nat} {m b c : Nat} (hl : l.length = m + 2) (hb : l.getD (m + 1) 0 = b) (hc : l.getD m 0 = c) : natVal l = natVal (l.take m) + base m * (18446744073709551616 * b + c) := by
  have e2 := take_up0 (xs := l) (k := m + 1) hb
  have e3 := take_up0 (xs := l) (k := m) hc
  rw [List.take_of_length_le (by omega)] at e2
  rw [e2, e3, base_succ]
  simp only [Nat.mul_add, Nat.mul_assoc, Nat.mul_left_comm]
  omega
/-- The guess is right, or too great by one. -/
theorem guess_near {us ys : List Nat} {m u2 u1 u0 v1 v0 g : Nat} (hus : us.length = m + 3) (hys : ys.length = m + 2) (hwu : Words us) (hwy : Words ys) (e2 : us.getD (m + 2) 0 = u2) (e1 : us.getD (m + 1) 0 = u1) (e0 : us.getD m 0 = u0) (f1 : ys.getD (m + 1) 0 = v1) (f0 : ys.getD m 0 = v0) (htop : 9223372036854775808 ≤ v1)
    (hlt : natVal us < 18446744073709551616 * natVal ys) (hg : Guess u2 u1 u0 v1 v0 g) : natVal us / natVal ys ≤ g ∧ g ≤ natVal us / natVal ys + 1 := by
  have hu := natVal_three hus e2 e1 e0
  have hv := natVal_two hys f1 f0
  have hur := natVal_lt (words_take hwu m)
  have hvr := natVal_lt (words_take hwy m)
  rw [List.length_take, Nat.min_eq_left (by omega)] at hur hvr
  have hv0 : v0 < 18446744073709551616 := by rw [← f0]; exact word_at hwy m
  have hM := base_pos m
  rw [Nat.mul_comm (base m)] at hu hv
  rw [Nat.add_comm] at hu hv
  have hvp : 0 < natVal ys := by
    rw [hv]
    have : 1 * base m ≤ (18446744073709551616 * v1 + v0) * base m := Nat.mul_le_mul_right _ (by omega)
    omega
  rcases hg.2 with ⟨_, b, c⟩ | ⟨a, rfl⟩
  · exact guess_range hu hur hv hvr b c (by have := hg.1; omega) hvp
  · exact guess_top hu rfl hv hvr a htop hv0 hlt
theorem put_put {xs cs bs : List Nat} {o : Nat} (h : cs.length = bs.length) (ho : o + cs.length ≤ xs.length) : put (put xs o cs) o bs = put xs o bs := by
  have h1 : (put xs o cs).take o = xs.take o := by
    unfold put
    rw [List.append_assoc, List.take_append_of_le_length (by simp; omega), List.take_take, Nat.min_self]
  have h2 : (put xs o cs).drop (o + bs.length) = xs.drop (o + bs.length) := by
    unfold put
    rw [List.drop_append, List.drop_eq_nil_of_le (by simp; omega), List.nil_append]
    have e : o + bs.length - (List.take o xs ++ cs).length = 0 := by simp; omega
    rw [e, List.drop_zero, h]
  show (put xs o cs).take o ++ bs ++ (put xs o cs).drop (o + bs.length) = _
  rw [h1, h2]
  rfl
theorem put_part {xs cs : List Nat} {o n : Nat} (ho : o + cs.length ≤ xs.length) (hn : n ≤ cs.length) : ((put xs o cs).drop o).take n = cs.take n := by
  unfold put
  rw [List.append_assoc, List.drop_append, List.drop_eq_nil_of_le (by simp; omega), List.nil_append]
  have e : o - (List.take o xs).length = 0 := by simp; omega
  rw [e, List.drop_zero, List.take_append_of_le_length hn]

theorem part_at {xs : List Nat} {o n k d : Nat} (hk : k < n) (_ho : o + n ≤ xs.length) (h : xs.getD (o + k) 0 = d) : ((xs.drop o).take n).getD k 0 = d := by
  rw [← h]
  simp [List.getD, hk]
theorem step_split {xs : List Nat} {o n u : Nat} (ho : o + (n + 1) ≤ xs.length) (hu : xs.getD (o + n) 0 = u) : natVal ((xs.drop o).take (n + 1)) = natVal ((xs.drop o).take n) + base n * u := by
  rw [take_next (by omega) hu, natVal_snoc, take_len (by omega)]
theorem top_pos {ys : List Nat} {m v : Nat} (hl : ys.length = m + 2) (h : 9223372036854775808 ≤ v) (hv : ys.getD (m + 1) 0 = v) : 0 < natVal ys := by
  have e := take_up0 (xs := ys) (k := m + 1) hv
  rw [List.take_of_length_le (by omega)] at e
  rw [e]
  have : base (m + 1) * 1 ≤ base (m + 1) * v := Nat.mul_le_mul_left _ (by omega)
  have := base_pos (m + 1)
  omega
theorem put_last {xs rs : List Nat} {o n t : Nat} (ho : o + (n + 1) ≤ xs.length) (hl : rs.length = n) : (put xs o (rs ++ [t])).getD (o + n) 0 = t := by
  unfold put
  rw [List.getD_eq_getElem?_getD, List.getElem?_append_left (by simp; omega), List.getElem?_append_right (by simp; omega), List.getElem?_append_right (by simp; omega)]
  have e : o + n - (List.take o xs).length - rs.length = 0 := by simp; omega
  rw [e]
  rfl
theorem words_put {xs rs : List Nat} (hx : Words xs) (hr : Words rs) (o : Nat) : Words (put xs o rs) := by
  unfold put
  exact words_append (words_append (words_take hx _) hr) (words_drop hx _)
theorem sub_range {un p : Nat} (h : p = un) (_hun : un < 18446744073709551616) : IntKind.u64.wrap ((un : Int) - (p : Int)) = 0 := by rw [wrap_u64, h]; omega
/-- Both ways of a step: the words behind the subtraction, and the quotient. -/
def StepPost (w : World) (g o n v : Nat) (xs : List Nat) (e : Ending) (w' : World) : Prop :=
  ∃ (rs : List Nat) (q : Nat), e = .returned (.int .u64 (q : Nat)) ∧ rs.length = n + 1 ∧ Words rs ∧ q < 18446744073709551616 ∧ natVal ((xs.drop o).take (n + 1)) = q * v + natVal rs ∧ natVal rs < v ∧ Blk w' g (put xs o rs) ∧ Only g w w'
set_option maxRecDepth 100000 in
set_option maxHeartbeats 8000000 in
theorem divStep_any (g o m c c' : Nat) (A' : Option Addr) (xs ys : List Nat) (w : World) (hb : Blk w g xs) (hl : IsL w A' (m + 2) c' (u64s ys)) (hA : ∀ a : Addr, A' = some a → a.block ≠ g) (ho : o + (m + 3) ≤ xs.length) (hx : Words xs) (hy : Words ys) (hm : m < 900000) (hoo : o < 1000000) (htop : 9223372036854775808 ≤ ys.getD (m + 1) 0)
    (hu : natVal ((xs.drop o).take (m + 3)) < 18446744073709551616 * natVal ys) (_hcc : m + 3 ≤ c) :
    Calls Tryd.prog 79 #[.slice (some ⟨g, o, none⟩) (m + 3 : Nat) c, .slice A' (m + 2 : Nat) c'] w (StepPost w g o (m + 2) (natVal ys) xs) := by
  have hlen : ys.length = m + 2 := by have := hl.1; rwa [u64s_length] at this
  have hcl' := hl.2.1
  have Hl := Lib.hid hl
  have HA := Lib.hid hA
  obtain ⟨b', o', rfl, hb', hc'⟩ := hl.2.2 (by omega)
  have hne : b' ≠ g := hA _ rfl
  have Hc := Lib.hid (show ∀ k : Nat, k < m + 2 → w.cell? ⟨b', o' + k, none⟩ = some (.int .u64 ((ys.getD k 0 : Nat) : Int)) from fun k hk => hc' k _ (by simp [u64s, show k < ys.length by omega]))
  have Hb := Lib.hid hb
  have Hx := Lib.hid hx
  have Hy := Lib.hid hy
  have Hlen := Lib.hid hlen
  obtain ⟨u2, hu2⟩ : ∃ u, xs.getD (o + (m + 2)) 0 = u := ⟨_, rfl⟩
  obtain ⟨u1, hu1⟩ : ∃ u, xs.getD (o + (m + 1)) 0 = u := ⟨_, rfl⟩
  obtain ⟨u0, hu0⟩ : ∃ u, xs.getD (o + m) 0 = u := ⟨_, rfl⟩
  obtain ⟨v1, hv1⟩ : ∃ v, ys.getD (m + 1) 0 = v := ⟨_, rfl⟩
  obtain ⟨v0, hv0⟩ : ∃ v, ys.getD m 0 = v := ⟨_, rfl⟩
  have bu2 := word_at hx (o + (m + 2))
  have bu1 := word_at hx (o + (m + 1))
  have bu0 := word_at hx (o + m)
  have bv1 := word_at hy (m + 1)
  have bv0 := word_at hy m
  have x2 := hb.cell (i := o + (m + 2)) (by omega)
  have x1 := hb.cell (i := o + (m + 1)) (by omega)
  have x0 := hb.cell (i := o + m) (by omega)
  have y1 := Hc.out (m + 1) (by omega)
  have y0 := Hc.out m (by omega)
  rw [hu2] at bu2 x2
  rw [hu1] at bu1 x1
  rw [hu0] at bu0 x0
  rw [hv1] at bv1 y1 htop
  rw [hv0] at bv0 y0
  obtain ⟨gs, hg⟩ := guess_some u2 u1 u0 v1 v0 bu1 bu0 (by omega)
  have Hg := Lib.hid hg
  have hgs := hg.1
  have Hu2 := Lib.hid hu2
  have Hnear := Lib.hid (guess_near (us := (xs.drop o).take (m + 3)) (take_len (by omega)) hlen (words_take (words_drop hx o) _) hy (part_at (by omega) (by omega) hu2) (part_at (by omega) (by omega) hu1) (part_at (by omega) (by omega) hu0) hv1 hv0 htop hu hg)
  have Hu := Lib.hid hu
  have Htop := Lib.hid (show 0 < natVal ys from top_pos hlen htop hv1)
  clear hb hl hA hx hy hc' hlen hu2 hu1 hu0 hv1 hv0 hg hu htop
  go_enter Tryd.func79, Tryd.ntmps79
  go_wp2_with fail
  go_quiet ((go_at_call 90; exact Calls.quiet_of (guessDigit_at u2 u1 u0 v1 v0 gs _ bu2 bu1 bu0 bv1 bv0 Hg.out)))
  have Hsub := Lib.hid (fun nq => subProduct_any g o (m + 3) c (m + 2) c' (some ⟨b', o', none⟩) xs ys gs (w.drewN nq) (Hb.out.drewN nq) (show IsL (w.drewN nq) _ _ _ _ from Hl.out) HA.out ho (by omega) Hx.out Hy.out hgs (by omega) hoo (by omega))
  clear x2 x1 x0 y1 y0
  go_wp2_with fail
  refine (Hsub.out nq).mono ?_
  rintro e w1 ⟨rs, p, rfl, hrl, hp, hrw, hrv, hrb, hro⟩
  have hcn := hrb.cell (i := o + (m + 2)) (by rw [put_length (by omega)]; omega)
  rw [put_get (by omega) (by omega), Hu2.out] at hcn
  have hfn := hrb.frozen (o + (m + 2))
  have Hus := Lib.hid (step_split (n := m + 2) ho Hu2.out)
  have Hvp := Lib.hid Htop.out
  have Hvn := Lib.hid (show natVal ys ≤ base (m + 2) by have := natVal_lt Hy.out; rw [Hlen.out] at this; omega)
  have Hrn := Lib.hid (show natVal rs < base (m + 2) by have := natVal_lt hrw; rwa [hrl] at this)
  have Hrv := Lib.hid hrv
  have Hro := Lib.hid hro
  have Hrb := Lib.hid hrb
  have Hrl := Lib.hid hrl
  have Hrw := Lib.hid hrw
  obtain ⟨q, hq⟩ : ∃ q, natVal ((xs.drop o).take (m + 3)) / natVal ys = q := ⟨_, rfl⟩
  rw [hq] at Hnear
  have Hq := Lib.hid hq
  have hnear := Hnear.out
  have hqg : gs = q ∨ gs = q + 1 := by omega
  have Hdm := Lib.hid (show natVal ((xs.drop o).take (m + 3)) = q * natVal ys + natVal ((xs.drop o).take (m + 3)) % natVal ys by
    have := Nat.div_add_mod (natVal ((xs.drop o).take (m + 3))) (natVal ys)
    rw [hq, Nat.mul_comm] at this
    omega)
  have Hml := Lib.hid (Nat.mod_lt (natVal ((xs.drop o).take (m + 3))) Hvp.out)
  clear hrl hrw hrv hrb hro hq hnear
  rcases hqg with hqg | hqg
  · have he := step_eq Hq.out Hus.out Hrv.out Hrn.out Hvn.out Hvp.out hqg
    have Hfin := fun k => Lib.hid (show StepPost w g o (m + 2) (natVal ys) xs (.returned (.int .u64 (gs : Nat))) ((w1.setCell ⟨g, o + (m + 2), none⟩ (.int .u64 0)).drewN k) from
      ⟨rs ++ [0], gs, rfl, by rw [List.length_append, Hrl.out]; rfl, words_snoc Hrw.out (by decide), hgs, by rw [natVal_snoc, Nat.mul_zero, Nat.add_zero, he.2, hqg]; exact Hdm.out, by rw [natVal_snoc, Nat.mul_zero, Nat.add_zero, he.2]; exact Hml.out, by
        have := (Hrb.out.set_ 0 (i := o + (m + 2)) (by rw [put_length (by rw [Hrl.out]; omega)]; omega))
        have e : (put xs o rs).set (o + (m + 2)) 0 = put xs o (rs ++ [0]) := by rw [← Hrl.out]; exact put_set (by rw [Hrl.out]; omega)
        rw [e] at this
        exact this.drewN k, (((Only.refl g w).drewN nq).trans Hro.out).set_ _ _ |>.drewN k⟩)
    have HF := Lib.hid Hfin
    have e1 := sub_range he.1 bu2
    clear Hfin he hqg
    go_wp2_with fail
    go_ret
    exact (HF.out 0).out
  · have he := step_back Hq.out Hus.out Hrv.out Hrn.out Hvn.out Hvp.out hqg
    obtain ⟨t, ht⟩ : ∃ t : Nat, t = 18446744073709551615 := ⟨_, rfl⟩
    have e1 : IntKind.u64.wrap ((u2 : Int) - (p : Int)) = (t : Int) := by rw [wrap_u64, ht, he.1]; omega
    have t0 : ((t : Int) == 0) = false := by rw [beq_eq_false_iff_ne]; omega
    have e2 : IntKind.u64.wrap ((t : Int) + 1) = 0 := by rw [wrap_u64, ht]; decide
    have ht1 : t < 18446744073709551616 := by omega
    have hgq : (gs : Int) - 1 = (q : Int) := by omega
    have hg1 : 1 ≤ gs := by omega
    have Hgq := Lib.hid hgq
    obtain ⟨w2, hw2⟩ : ∃ w2, w1.setCell ⟨g, o + (m + 2), none⟩ (.int .u64 (t : Int)) = w2 := ⟨_, rfl⟩
    have HX := Lib.hid (show Blk w2 g (put xs o (rs ++ [t])) by
      have := (Hrb.out.set_ t (i := o + (m + 2)) (by rw [put_length (by rw [Hrl.out]; omega)]; omega))
      have e : (put xs o rs).set (o + (m + 2)) t = put xs o (rs ++ [t]) := by rw [← Hrl.out]; exact put_set (by rw [Hrl.out]; omega)
      rw [e, hw2] at this
      exact this)
    have HO := Lib.hid (show Only g w w2 by rw [← hw2]; exact (((Only.refl g w).drewN nq).trans Hro.out).set_ _ _)
    have He2 := Lib.hid he.2
    have hX2 : (put xs o (rs ++ [t])).getD (o + (m + 2)) 0 = t := put_last (by omega) Hrl.out
    have hcx := HX.out.cell (i := o + (m + 2)) (by rw [put_length (by rw [List.length_append, Hrl.out]; simp; omega)]; omega)
    rw [hX2] at hcx
    have hfx := HX.out.frozen (o + (m + 2))
    obtain ⟨X2, hX⟩ : ∃ X2, put xs o (rs ++ [t]) = X2 := ⟨_, rfl⟩
    rw [hX] at HX hX2
    have HX2 := Lib.hid hX2
    have hX2l : X2.length = xs.length := by rw [← hX]; exact put_length (by rw [List.length_append, Hrl.out]; simp; omega)
    have HX2l := Lib.hid hX2l
    have HX2w := Lib.hid (show Words X2 by rw [← hX]; exact words_put Hx.out (words_snoc Hrw.out ht1) o)
    have HX2p := Lib.hid (show (X2.drop o).take (m + 2) = rs by rw [← hX, put_part (by rw [List.length_append, Hrl.out]; simp; omega) (by rw [List.length_append, Hrl.out]; simp), ← Hrl.out, List.take_left])
    have HX2o := Lib.hid hX
    clear ht he hqg hgq hX2 hX hX2l
    go_wp2_with fail
    go_loopw [57, 8] (fun vi vc wr => ∃ k : Nat, k ≤ m + 2 ∧ vi = .int .i64 (k : Nat) ∧ AddInv w2 g o (m + 3) X2 ys k vc wr) (fun vi _ _ => m + 2 - (intOf vi).toNat)
    case atStart => exact ⟨0, Nat.zero_le _, rfl, [], 0, rfl, Nat.zero_le _, rfl, Nat.zero_le _, fun d hd => absurd hd (by simp), by simp [natVal, base_zero], by rw [put_nil]; exact HX.out, Only.refl _ _⟩
    case round =>
      obtain ⟨k, hk, rfl, zs, cc, hrk, hkn, rfl, hc1, hw, hv, hblk, honly⟩ := hrel
      have Hrk := Lib.hid hrk
      have Hw := Lib.hid hw
      have Hv := Lib.hid hv
      have Hblk := Lib.hid hblk
      have Honly := Lib.hid (HO.out.trans honly)
      have Honly2 := Lib.hid honly
      by_cases hlt : k < m + 2
      · have hcell := hblk.cell (i := o + k) (by have := HX2l.out; rw [put_length (by omega)]; omega)
        rw [put_get (by have := HX2l.out; omega) (by omega)] at hcell
        have hfz := hblk.frozen (o + k)
        have hcy := (Honly.out.cell (o := o' + k) hb' hne).trans (Hc.out k hlt)
        have hx1 := word_at HX2w.out (o + k)
        have hy1 := word_at Hy.out k
        obtain ⟨x, hx⟩ : ∃ x, X2.getD (o + k) 0 = x := ⟨_, rfl⟩
        obtain ⟨y, hy⟩ : ∃ y, ys.getD k 0 = y := ⟨_, rfl⟩
        rw [hx] at hcell hx1
        rw [hy] at hcy
        rw [hy] at hy1
        have HXk := Lib.hid hx
        have HYk := Lib.hid hy
        clear hblk honly hw hv hrk hx hy hcx hfx
        obtain ⟨s, hs⟩ : ∃ s, (x + y + cc) % 18446744073709551616 = s := ⟨_, rfl⟩
        obtain ⟨f, hf⟩ : ∃ f, (x + y + cc) / 18446744073709551616 = f := ⟨_, rfl⟩
        have hadd : ∀ W : World, (callFunc 84 #[.int .u64 (x : Int), .int .u64 (y : Int), .int .u64 (cc : Int)]).run Tryd.prog W = .ok (.value (.tuple #[.int .u64 (s : Int), .int .u64 (f : Int)])) W := add64_at x y cc s f hc1 hs hf
        have Hs := Lib.hid hs
        have Hf := Lib.hid hf
        clear hs hf hw2 e1 t0 e2
        go_wp2_with fail
        go_region
        all_goals
          have Hfin := Lib.hid (add_step (m := 1) Hrk.out (show k < m + 3 by omega) (by have := HX2l.out; omega) HXk.out HYk.out hx1 hy1 hc1 Hs.out Hf.out Hw.out Hv.out Hblk.out Honly2.out)
          go_wp2_with fail
          exact ⟨⟨k + 1, hlt, by go_num, Hfin.out⟩, by simp [intOf] <;> omega⟩
      · obtain rfl : k = m + 2 := by omega
        have hy2 : ys.take (m + 2) = ys := List.take_of_length_le (by rw [Hlen.out]; exact Nat.le_refl _)
        have hv2 := hv
        rw [HX2p.out, hy2, He2.out] at hv2
        have hzn : natVal zs < base (m + 2) := by have := natVal_lt hw; rwa [hrk] at this
        have hcc1 : cc = 1 ∧ natVal zs = natVal ((xs.drop o).take (m + 3)) % natVal ys := by
          have hc2 : cc = 0 ∨ cc = 1 := by omega
          rcases hc2 with h | h
          · subst h; exfalso; omega
          · subst h; exact ⟨rfl, by omega⟩
        obtain ⟨rfl, hzv⟩ := hcc1
        have hcl := hblk.cell (i := o + (m + 2)) (by have := HX2l.out; rw [put_length (by omega)]; omega)
        rw [put_get (by have := HX2l.out; omega) (by omega), HX2.out] at hcl
        have hfz := hblk.frozen (o + (m + 2))
        have Hfin := Lib.hid (show StepPost w g o (m + 2) (natVal ys) xs (.returned (.int .u64 (q : Nat))) (wr.setCell ⟨g, o + (m + 2), none⟩ (.int .u64 0)) from
          ⟨zs ++ [0], q, rfl, by rw [List.length_append, hrk]; rfl, words_snoc hw (by decide), by have := Hgq.out; omega, by rw [natVal_snoc, Nat.mul_zero, Nat.add_zero, hzv]; exact Hdm.out, by rw [natVal_snoc, Nat.mul_zero, Nat.add_zero, hzv]; exact Hml.out, by
            have := (hblk.set_ 0 (i := o + (m + 2)) (by have := HX2l.out; rw [put_length (by omega)]; omega))
            have e : (put X2 o zs).set (o + (m + 2)) 0 = put X2 o (zs ++ [0]) := by rw [← hrk]; exact put_set (by have := HX2l.out; omega)
            rw [e, ← HX2o.out, put_put (by rw [List.length_append, List.length_append, Hrl.out, hrk]; rfl) (by rw [List.length_append, Hrl.out]; simp; omega)] at this
            exact this, Honly.out.set_ _ _⟩)
        have hgqq : Ending.returned (Value.int IntKind.u64 ((gs : Int) - 1)) = Ending.returned (.int .u64 (q : Nat)) := by rw [Hgq.out]
        have HGQ := Lib.hid hgqq
        clear hblk honly hw hv hrk hv2 hzn hzv hw2 e1 t0 hcx hfx hy2 hgqq
        go_wp2_with fail
        go_ret
        rw [← HGQ.out] at Hfin
        exact Hfin.out
theorem pow_split {s : Nat} (h : s < 64) : 2 ^ (64 - s) * 2 ^ s = 18446744073709551616 := by rw [← Nat.pow_add, show 64 - s + s = 64 by omega]
theorem shl_parts {x t s l b : Nat} (h : s < 64) (hx : x < 18446744073709551616) (ht : t < 2 ^ s) (hl : x * 2 ^ s % 18446744073709551616 = l) (hb : x / 2 ^ (64 - s) = b) :
    l < 18446744073709551616 ∧ t + l < 18446744073709551616 ∧ b < 2 ^ s ∧ b < 18446744073709551616 ∧ l + 18446744073709551616 * b = x * 2 ^ s ∧ (t ||| l) = t + l := by
  have hp : 0 < 2 ^ s := Nat.pow_pos (by decide)
  have e := pow_split h
  have hq : 0 < 2 ^ (64 - s) := Nat.pow_pos (by decide)
  have hd : x * 2 ^ s / 18446744073709551616 = b := by rw [← hb, ← e, Nat.mul_div_mul_right _ _ hp]
  have hdm := Nat.div_add_mod (x * 2 ^ s) 18446744073709551616
  rw [hd, hl] at hdm
  have hb2 : b < 2 ^ s := by rw [← hb, Nat.div_lt_iff_lt_mul hq, Nat.mul_comm, e]; exact hx
  have hs64 : 2 ^ s < 18446744073709551616 := Nat.lt_of_lt_of_le (Nat.pow_lt_pow_right (by decide) h) (by decide)
  have hl64 : l < 18446744073709551616 := by rw [← hl]; exact Nat.mod_lt _ (by decide)
  have hll : l = 2 ^ s * (x % 2 ^ (64 - s)) := by
    rw [← hl, ← e, Nat.mul_mod_mul_right, Nat.mul_comm]
  have hor : (t ||| l) = t + l := by
    rw [hll, Nat.or_comm, ← Nat.two_pow_add_eq_or_of_lt ht, Nat.add_comm]
  have hle : l + 2 ^ s ≤ 18446744073709551616 := by
    rw [hll, ← e, Nat.mul_comm (2 ^ (64 - s))]
    have : x % 2 ^ (64 - s) + 1 ≤ 2 ^ (64 - s) := Nat.mod_lt _ hq
    have := Nat.mul_le_mul_left (2 ^ s) this
    rw [Nat.mul_add, Nat.mul_one] at this
    exact this
  exact ⟨hl64, by omega, hb2, by omega, by omega, hor⟩
def ShlInv (w0 : World) (g n s : Nat) (xs : List Nat) (vi : Value) (wr : World) : Prop :=
  ∃ (ts : List Nat) (t : Nat), ts.length ≤ n ∧ vi = .int .i64 (ts.length : Nat) ∧ Words ts ∧ t < 2 ^ s ∧ natVal ts + base ts.length * t = natVal (xs.take ts.length) * 2 ^ s ∧ Blk wr g (put (List.replicate (n + 1) 0) 0 (ts ++ [t])) ∧ Only g w0 wr
theorem put_mid {zs ts : List Nat} {t u : Nat} (_h : ts.length < zs.length) : (put zs 0 (ts ++ [t])).set ts.length u = put zs 0 (ts ++ [u]) := by
  unfold put
  rw [List.length_append, List.length_append]
  simp
theorem shl_step {w0 wr : World} {g n s k x t l b m : Nat} {xs ts : List Nat} (h : s < 64) (hk : ts.length = k) (hkn : k < n) (hxs : xs.getD k 0 = x) (hx : x < 18446744073709551616) (ht : t < 2 ^ s) (hl : x * 2 ^ s % 18446744073709551616 = l) (hb : x / 2 ^ (64 - s) = b)
    (hw : Words ts) (hv : natVal ts + base ts.length * t = natVal (xs.take ts.length) * 2 ^ s) (hblk : Blk wr g (put (List.replicate (n + 1) 0) 0 (ts ++ [t]))) (ho : Only g w0 wr) :
    ShlInv w0 g n s xs (.int .i64 ((k : Int) + 1)) (((wr.setCell ⟨g, k, none⟩ (.int .u64 ((t + l : Nat) : Int))).setCell ⟨g, k + 1, none⟩ (.int .u64 (b : Int))).drewN m) := by
  obtain ⟨p1, p2, p3, p4, p5, _⟩ := shl_parts h hx ht hl hb
  subst hk
  refine ⟨ts ++ [t + l], b, by simp; omega, by simp, words_snoc hw p2, p3, ?_, ?_, ((ho.set_ _ _).set_ _ _).drewN m⟩
  · rw [natVal_snoc, List.length_append, List.length_singleton, base_succ, take_up0 hxs, Nat.add_mul, ← hv]
    have e4 : base ts.length * (l + 18446744073709551616 * b) = base ts.length * (x * 2 ^ s) := by rw [p5]
    simp only [Nat.mul_add, Nat.mul_assoc, Nat.mul_left_comm] at e4 ⊢
    omega
  · have e1 := hblk.set_ (t + l) (i := ts.length) (by rw [put_length (by simp; omega)]; simp; omega)
    rw [put_mid (by simp; omega)] at e1
    have e2 := e1.set_ b (i := ts.length + 1) (by rw [put_length (by simp; omega)]; simp; omega)
    have e3 : (put (List.replicate (n + 1) 0) 0 (ts ++ [t + l])).set (ts.length + 1) b = put (List.replicate (n + 1) 0) 0 (ts ++ [t + l] ++ [b]) := by
      have := put_set (xs := List.replicate (n + 1) 0) (o := 0) (ys := ts ++ [t + l]) (d := b) (by simp; omega)
      rw [List.length_append, List.length_singleton, Nat.zero_add] at this
      exact this
    rw [e3] at e2
    exact e2.drewN m
set_option maxRecDepth 100000 in
set_option maxHeartbeats 4000000 in
theorem shiftLeft_any (A : Option Addr) (n c s : Nat) (xs : List Nat) (w : World) (hl : IsL w A n c (u64s xs)) (hx : Words xs) (h0 : 0 < n) (hn : n < 900) (hs : s < 64) :
    Calls Tryd.prog 78 #[.slice A n c, .int .u64 (s : Nat)] w fun e w' => ∃ (g : Nat) (zs : List Nat), e = .returned (.slice (some ⟨g, 0, none⟩) (n + 1 : Nat) (n + 1 : Nat)) ∧ w.heap.size ≤ g ∧ zs.length = n + 1 ∧ Words zs ∧ natVal zs = natVal xs * 2 ^ s ∧ Blk w' g zs ∧ Below w.heap.size w w' := by
  obtain ⟨i0, hi, hz0, hz1, hz2⟩ := info_parts info_u64
  have hlen : xs.length = n := by have := hl.1; rwa [u64s_length] at this
  obtain ⟨b', o', rfl, hb', hc'⟩ := hl.2.2 h0
  have Hc := Lib.hid (show ∀ k : Nat, k < n → w.cell? ⟨b', o' + k, none⟩ = some (.int .u64 ((xs.getD k 0 : Nat) : Int)) from fun k hk => hc' k _ (by simp [u64s, show k < xs.length by omega]))
  have Hx := Lib.hid hx
  have Hlen := Lib.hid hlen
  have hle := hl.2.1
  clear hl hx hc' hlen
  go_enter Tryd.func78, Tryd.ntmps78
  go_wp2_with (at_make; refine wpList_make_full _ rfl _ _ 60 rfl w.heap.size 75 i0 (.int .u64 0) 1 Tryd.underlying60 hi hz0 hz1 _ _ _ _ (n + 1) rfl rfl (by simp) (by simp) (by rw [hz2]; omega) (by unfold maxLen; omega) (Nat.le_refl _) ?_)
  intro w3 hown hgrow
  rw [zeros_u64] at hown
  have Hblk := Lib.hid (show Blk w3 w.heap.size (List.replicate (n + 1) 0) by
    obtain ⟨g, c, e, _, _, hg, hb⟩ := Blk.of_own hown (by omega)
    injection e with e1 e2 e3
    injection e1 with e1
    injection e1 with e1
    subst e1
    exact hb)
  have b3 := (Below.refl w.heap.size w).grown hgrow (Nat.le_refl _) (by simp)
  have B3 := Lib.hid b3
  have hsz := Hblk.out.lt
  clear hown hgrow b3
  go_wp2_with fail
  go_loopw [13] (fun vi wr => ShlInv w3 w.heap.size n s xs vi wr) (fun vi _ => n - (intOf vi).toNat)
  case atStart => exact ⟨[], 0, Nat.zero_le _, rfl, fun d hd => absurd hd (by simp), Nat.pow_pos (by decide), by simp [natVal], by
    have e : put (List.replicate (n + 1) 0) 0 ([] ++ [0]) = List.replicate (n + 1) 0 := by rw [List.replicate_succ]; rfl
    rw [e]; exact Hblk.out, Only.refl _ _⟩
  case round =>
    obtain ⟨ts, t, hkn, rfl, hw, ht, hv, hblk, honly⟩ := hrel
    have Hw := Lib.hid hw
    have Hv := Lib.hid hv
    have Hblk := Lib.hid hblk
    have Honly := Lib.hid honly
    have Ht := Lib.hid ht
    obtain ⟨k, hk⟩ : ∃ k, ts.length = k := ⟨_, rfl⟩
    have Hk := Lib.hid hk
    rw [hk] at hkn ⊢
    by_cases hlt : k < n
    · have hct := hblk.cell (i := k) (by rw [put_length (by simp; omega)]; simp; omega)
      have hgt : (put (List.replicate (n + 1) 0) 0 (ts ++ [t])).getD k 0 = t := by
        have := put_last (xs := List.replicate (n + 1) 0) (rs := ts) (o := 0) (n := k) (t := t) (by simp; omega) hk
        rwa [Nat.zero_add] at this
      rw [hgt] at hct
      have hf0 := hblk.frozen k
      have hf1 := hblk.frozen (k + 1)
      have hc1 := hblk.cell (i := k + 1) (by rw [put_length (by simp; omega)]; simp; omega)
      obtain ⟨z1, hz1⟩ : ∃ z, (put (List.replicate (n + 1) 0) 0 (ts ++ [t])).getD (k + 1) 0 = z := ⟨_, rfl⟩
      rw [hz1] at hc1
      have hcx := (honly.cell (o := o' + k) (by have := B3.out.size; omega) (by omega)).trans ((B3.out.cell (p := ⟨b', o' + k, none⟩) hb').trans (Hc.out k hlt))
      have hx1 := word_at Hx.out k
      obtain ⟨x, hx⟩ : ∃ x, xs.getD k 0 = x := ⟨_, rfl⟩
      rw [hx] at hcx hx1
      have HX := Lib.hid hx
      obtain ⟨l, hl⟩ : ∃ l, x * 2 ^ s % 18446744073709551616 = l := ⟨_, rfl⟩
      obtain ⟨b, hb⟩ : ∃ b, x / 2 ^ (64 - s) = b := ⟨_, rfl⟩
      obtain ⟨p1, p2, p3, p4, p5, p6⟩ := shl_parts hs hx1 ht hl hb
      have hs64 : 2 ^ s < 18446744073709551616 := Nat.lt_of_lt_of_le (Nat.pow_lt_pow_right (by decide) hs) (by decide)
      have k1 : IntKind.u64.wrap ((x : Int) * 2 ^ s) = (l : Int) := by
        rw [show (x : Int) * 2 ^ s = ((x * 2 ^ s : Nat) : Int) by simp, wrap_u64, ← hl]; simp
      have k2 : (x : Int) / 2 ^ (64 - s) = (b : Int) := by rw [← hb]; simp
      have k3 : bits BinOp.or IntKind.u64 (t : Int) (l : Int) = ((t + l : Nat) : Int) := by rw [bits_or_u64_nat _ _ (by omega) p1, p6]
      have Hl := Lib.hid hl
      have Hb := Lib.hid hb
      clear hl hb p3 p5 p6 hk hw hv ht hblk honly hx hgt hz1 p1 hs64
      go_wp2_with fail
      go_region
      all_goals
        have Hfin := Lib.hid (shl_step (m := 1) hs Hk.out hlt HX.out hx1 Ht.out Hl.out Hb.out Hw.out Hv.out Hblk.out Honly.out)
        go_wp2_with fail
        exact ⟨by have := Hfin.out; rw [Int.natCast_add] at this; exact this, by simp [intOf] <;> omega⟩
    · obtain rfl : k = n := by omega
      have Hfin := Lib.hid (show natVal (ts ++ [t]) = natVal xs * 2 ^ s by
        rw [natVal_snoc, hv, hk, List.take_of_length_le (by rw [Hlen.out]; exact Nat.le_refl _)])
      have Hzb := Lib.hid (show Blk wr w.heap.size (ts ++ [t]) by
        have e : put (List.replicate (k + 1) 0) 0 (ts ++ [t]) = ts ++ [t] := by
          unfold put
          rw [List.take_zero, List.nil_append, List.drop_eq_nil_of_le (by simp; omega), List.append_nil]
        rw [← e]; exact hblk)
      have Hzw := Lib.hid (show Words (ts ++ [t]) from words_snoc hw (Nat.lt_of_lt_of_le ht (Nat.le_trans (Nat.pow_le_pow_right (by decide) (show s ≤ 64 by omega)) (by decide))))
      have Hbf := Lib.hid (Below.only B3.out honly (Nat.le_refl _) B3.out.size)
      clear hk hw hv ht hblk honly
      go_wp2
      go_ret
      exact ⟨w.heap.size, ts ++ [t], rfl, Nat.le_refl _, by rw [List.length_append, Hk.out]; rfl, Hzw.out, Hfin.out, Hzb.out, Hbf.out⟩
theorem shr_parts {x y s h c r : Nat} (hs : s < 64) (hx : x < 18446744073709551616) (_hy : y < 18446744073709551616) (hh : x / 2 ^ s = h) (hc : y * 2 ^ (64 - s) % 18446744073709551616 = c) (hr : x % 2 ^ s = r) :
    h < 18446744073709551616 ∧ c < 18446744073709551616 ∧ (h ||| c) = h + c ∧ h + c < 18446744073709551616 ∧ (h + c) * 2 ^ s + r = x + 18446744073709551616 * (y % 2 ^ s) := by
  have hp : 0 < 2 ^ s := Nat.pow_pos (by decide)
  have e := pow_split hs
  have hq : 0 < 2 ^ (64 - s) := Nat.pow_pos (by decide)
  have hcc : c = 2 ^ (64 - s) * (y % 2 ^ s) := by
    rw [← hc, ← e, Nat.mul_comm (2 ^ (64 - s)) (2 ^ s), Nat.mul_mod_mul_right, Nat.mul_comm]
  have hh2 : h < 2 ^ (64 - s) := by rw [← hh, Nat.div_lt_iff_lt_mul hp, e]; exact hx
  have hor : (h ||| c) = h + c := by rw [hcc, Nat.or_comm, ← Nat.two_pow_add_eq_or_of_lt hh2, Nat.add_comm]
  have hle : h + c < 18446744073709551616 := by
    rw [hcc, ← e]
    have h1 : y % 2 ^ s + 1 ≤ 2 ^ s := Nat.mod_lt _ hp
    have h2 := Nat.mul_le_mul_left (2 ^ (64 - s)) h1
    rw [Nat.mul_add, Nat.mul_one] at h2
    omega
  refine ⟨by omega, by omega, hor, hle, ?_⟩
  have h3 := Nat.div_add_mod x (2 ^ s)
  rw [hh, hr] at h3
  rw [Nat.add_mul, hcc, Nat.mul_right_comm (2 ^ (64 - s)), e, Nat.mul_comm h]
  omega
/-- The words shifted so far. -/
def ShrInv (w0 : World) (g n s : Nat) (xs : List Nat) (vi : Value) (wr : World) : Prop :=
  ∃ ts : List Nat, ts.length ≤ n ∧ vi = .int .i64 (ts.length : Nat) ∧ Words ts ∧ natVal ts * 2 ^ s + xs.getD 0 0 % 2 ^ s = natVal (xs.take ts.length) + base ts.length * (xs.getD ts.length 0 % 2 ^ s) ∧ Blk wr g (put xs 0 ts) ∧ Only g w0 wr
theorem shr_step {w0 wr : World} {g n s k x y h c m : Nat} {xs ts : List Nat} (hs : s < 64) (hk : ts.length = k) (hkn : k < n) (hn : xs.length = n) (hxk : xs.getD k 0 = x) (hyk : xs.getD (k + 1) 0 = y) (hx : x < 18446744073709551616) (hy : y < 18446744073709551616) (hh : x / 2 ^ s = h) (hc : y * 2 ^ (64 - s) % 18446744073709551616 = c)
    (hw : Words ts) (hv : natVal ts * 2 ^ s + xs.getD 0 0 % 2 ^ s = natVal (xs.take ts.length) + base ts.length * (xs.getD ts.length 0 % 2 ^ s)) (hblk : Blk wr g (put xs 0 ts)) (ho : Only g w0 wr) :
    ShrInv w0 g n s xs (.int .i64 ((k : Int) + 1)) (((wr.setCell ⟨g, k, none⟩ (.int .u64 (h : Int))).setCell ⟨g, k, none⟩ (.int .u64 ((h + c : Nat) : Int))).drewN m) := by
  obtain ⟨r, hr⟩ : ∃ r, x % 2 ^ s = r := ⟨_, rfl⟩
  obtain ⟨p1, p2, _, p4, p5⟩ := shr_parts hs hx hy hh hc hr
  subst hk
  refine ⟨ts ++ [h + c], by simp; omega, by simp, words_snoc hw p4, ?_, ?_, ((ho.set_ _ _).set_ _ _).drewN m⟩
  · rw [natVal_snoc, List.length_append, List.length_singleton, hyk, take_up0 hxk, base_succ, Nat.add_mul]
    rw [hxk, hr] at hv
    have e4 : base ts.length * ((h + c) * 2 ^ s + r) = base ts.length * (x + 18446744073709551616 * (y % 2 ^ s)) := by rw [p5]
    rw [Nat.mul_add, Nat.mul_add, ← Nat.mul_assoc, Nat.mul_left_comm (base ts.length)] at e4
    rw [Nat.mul_assoc 18446744073709551616]
    omega
  · have e1 := hblk.set_ h (i := ts.length) (by rw [put_length (by omega)]; omega)
    have q1 : (put xs 0 ts).set ts.length h = put xs 0 (ts ++ [h]) := by
      have := put_set (xs := xs) (o := 0) (ys := ts) (d := h) (by omega)
      rwa [Nat.zero_add] at this
    rw [q1] at e1
    have e2 := e1.set_ (h + c) (i := ts.length) (by rw [put_length (by simp; omega)]; omega)
    rw [put_mid (by omega)] at e2
    exact e2.drewN m
theorem shr_last {w0 wr : World} {g n s k x h m : Nat} {xs ts : List Nat} (hs : s < 64) (hk : ts.length = k) (hkn : k < n) (hn : xs.length = n) (hkl : k + 1 = n) (hxk : xs.getD k 0 = x) (hx : x < 18446744073709551616) (hh : x / 2 ^ s = h)
    (hw : Words ts) (hv : natVal ts * 2 ^ s + xs.getD 0 0 % 2 ^ s = natVal (xs.take ts.length) + base ts.length * (xs.getD ts.length 0 % 2 ^ s)) (hblk : Blk wr g (put xs 0 ts)) (ho : Only g w0 wr) :
    ShrInv w0 g n s xs (.int .i64 ((k : Int) + 1)) ((wr.setCell ⟨g, k, none⟩ (.int .u64 (h : Int))).drewN m) := by
  have hy : xs.getD (k + 1) 0 = 0 := by simp [List.getD, List.getElem?_eq_none (by omega : xs.length ≤ k + 1)]
  obtain ⟨r, hr⟩ : ∃ r, x % 2 ^ s = r := ⟨_, rfl⟩
  obtain ⟨p1, p2, _, p4, p5⟩ := shr_parts (y := 0) hs hx (by decide) hh (by rw [Nat.zero_mul]) hr
  subst hk
  refine ⟨ts ++ [h], by simp; omega, by simp, words_snoc hw p1, ?_, ?_, (ho.set_ _ _).drewN m⟩
  · rw [natVal_snoc, List.length_append, List.length_singleton, hy, take_up0 hxk, base_succ, Nat.add_mul]
    rw [hxk, hr] at hv
    simp only [Nat.zero_mod, Nat.mul_zero, Nat.add_zero] at p5 ⊢
    have e4 : base ts.length * (h * 2 ^ s + r) = base ts.length * x := by rw [p5]
    rw [Nat.mul_add, ← Nat.mul_assoc] at e4
    omega
  · have e1 := hblk.set_ h (i := ts.length) (by rw [put_length (by omega)]; omega)
    have q1 : (put xs 0 ts).set ts.length h = put xs 0 (ts ++ [h]) := by
      have := put_set (xs := xs) (o := 0) (ys := ts) (d := h) (by omega)
      rwa [Nat.zero_add] at this
    rw [q1] at e1
    exact e1.drewN m
theorem shr_end {xs ts : List Nat} {n s r : Nat} (_hs : s < 64) (hn : xs.length = n) (hk : ts.length = n) (hv : natVal ts * 2 ^ s + xs.getD 0 0 % 2 ^ s = natVal (xs.take ts.length) + base ts.length * (xs.getD ts.length 0 % 2 ^ s)) (hr : natVal xs = r * 2 ^ s) : natVal ts = r := by
  have hp : 0 < 2 ^ s := Nat.pow_pos (by decide)
  have hy : xs.getD ts.length 0 = 0 := by simp [List.getD, List.getElem?_eq_none (by omega : xs.length ≤ ts.length)]
  rw [hy, Nat.zero_mod, Nat.mul_zero, Nat.add_zero, List.take_of_length_le (by omega), hr] at hv
  have h1 : xs.getD 0 0 % 2 ^ s < 2 ^ s := Nat.mod_lt _ hp
  have h2 : (natVal ts * 2 ^ s + xs.getD 0 0 % 2 ^ s) / 2 ^ s = r := by rw [hv, Nat.mul_div_cancel _ hp]
  rw [Nat.mul_comm, Nat.mul_add_div hp, Nat.div_eq_of_lt h1, Nat.add_zero] at h2
  exact h2
set_option maxRecDepth 100000 in
set_option maxHeartbeats 4000000 in
theorem shiftRight_any (g n c s r : Nat) (xs : List Nat) (w : World) (hb : Blk w g xs) (hn : xs.length = n) (hx : Words xs) (hn9 : n < 1000) (hnc : n ≤ c) (hs : s < 64) (hr : natVal xs = r * 2 ^ s) :
    Calls Tryd.prog 80 #[.slice (some ⟨g, 0, none⟩) n c, .int .u64 (s : Nat)] w fun e w' => e = .returned (.tuple #[]) ∧ (∃ zs : List Nat, zs.length = n ∧ Words zs ∧ natVal zs = r ∧ Blk w' g zs) ∧ Only g w w' := by
  have Hb := Lib.hid hb
  have Hx := Lib.hid hx
  have Hn := Lib.hid hn
  have Hr := Lib.hid hr
  clear hb hx hn hr
  go_enter Tryd.func80, Tryd.ntmps80
  go_wp2_with fail
  go_loopw [7] (fun vi wr => ShrInv w g n s xs vi wr) (fun vi _ => n - (intOf vi).toNat)
  case atStart => exact ⟨[], Nat.zero_le _, rfl, fun d hd => absurd hd (by simp), by simp [natVal, base_zero], by rw [put_nil]; exact Hb.out, Only.refl _ _⟩
  case round =>
    obtain ⟨ts, hkn, rfl, hw, hv, hblk, honly⟩ := hrel
    have Hw := Lib.hid hw
    have Hv := Lib.hid hv
    have Hblk := Lib.hid hblk
    have Honly := Lib.hid honly
    obtain ⟨k, hk⟩ : ∃ k, ts.length = k := ⟨_, rfl⟩
    have Hk := Lib.hid hk
    rw [hk] at hkn ⊢
    have hxl := Hn.out
    by_cases hlt : k < n
    · have hcx := hblk.cell (i := k) (by rw [put_length (by omega)]; omega)
      rw [put_get (by omega) (by omega)] at hcx
      have hf := hblk.frozen k
      have hx1 := word_at Hx.out k
      obtain ⟨x, hx⟩ : ∃ x, xs.getD k 0 = x := ⟨_, rfl⟩
      rw [hx] at hcx hx1
      have HX := Lib.hid hx
      obtain ⟨h, hh⟩ : ∃ h, x / 2 ^ s = h := ⟨_, rfl⟩
      have k1 : (x : Int) / 2 ^ s = (h : Int) := by rw [← hh]; simp
      have Hh := Lib.hid hh
      by_cases hlast : k + 1 < n
      · have hcy := hblk.cell (i := k + 1) (by rw [put_length (by omega)]; omega)
        rw [put_get (by omega) (by omega)] at hcy
        have hy1 := word_at Hx.out (k + 1)
        obtain ⟨y, hy⟩ : ∃ y, xs.getD (k + 1) 0 = y := ⟨_, rfl⟩
        rw [hy] at hcy hy1
        have HY := Lib.hid hy
        obtain ⟨c2, hc2⟩ : ∃ c, y * 2 ^ (64 - s) % 18446744073709551616 = c := ⟨_, rfl⟩
        obtain ⟨p1, p2, p3, p4, _⟩ := shr_parts hs hx1 hy1 hh hc2 rfl
        have k2 : IntKind.u64.wrap ((y : Int) * 2 ^ (64 - s)) = (c2 : Int) := by
          rw [show (y : Int) * 2 ^ (64 - s) = ((y * 2 ^ (64 - s) : Nat) : Int) by simp, wrap_u64, ← hc2]; simp
        have k3 : bits BinOp.or IntKind.u64 (h : Int) (c2 : Int) = ((h + c2 : Nat) : Int) := by rw [bits_or_u64_nat _ _ p1 p2, p3]
        have Hc2 := Lib.hid hc2
        clear hh hc2 p3 hk hw hv hblk honly hx hy hxl
        go_wp2_with fail
        go_region
        all_goals
          have Hfin := Lib.hid (shr_step (m := 1) hs Hk.out hlt Hn.out HX.out HY.out hx1 hy1 Hh.out Hc2.out Hw.out Hv.out Hblk.out Honly.out)
          go_wp2_with fail
          exact ⟨by have := Hfin.out; rw [Int.natCast_add] at this; exact this, by simp [intOf] <;> omega⟩
      · have Hfin := Lib.hid (shr_last (m := 0) hs Hk.out hlt Hn.out (by omega) HX.out hx1 Hh.out Hw.out Hv.out Hblk.out Honly.out)
        clear hh hk hw hv hblk honly hx hxl
        go_wp2_with fail
        exact ⟨Hfin.out, by simp [intOf] <;> omega⟩
    · obtain rfl : k = n := by omega
      have Hfin := Lib.hid (shr_end hs hxl hk hv Hr.out)
      have Hzb := Lib.hid (show Blk wr g ts by
        have e : put xs 0 ts = ts := by
          unfold put
          rw [List.take_zero, List.nil_append, List.drop_eq_nil_of_le (by omega), List.append_nil]
        rw [← e]; exact hblk)
      clear hk hw hv hblk honly hxl
      go_wp2
      go_end0
      exact ⟨rfl, ⟨ts, Hk.out, Hw.out, Hfin.out, Hzb.out⟩, Honly.out⟩
end Go.Proofs.YtegndbiglehacaaDoor
