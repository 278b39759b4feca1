/- The reference's Bits. -/
import Derived.Test.YtegndbiglehacaaDoorRefA
import Derived.Test.YtegndbiglehacaaDoorBits
namespace Go.Proofs.YtegndbiglehacaaDoor
open Go.RowKit

theorem txt_2 : txt 2 = ⟨#[50]⟩ := by
  rw [txt_ne (by decide), if_neg (by decide), show (2 : Int).natAbs = 2 from rfl, digN_pos (by decide), show 2 / 10 = 0 from rfl, digN_zero]
  rfl
theorem dm_two {x : Nat} {q r : Int} (h : DM (x : Int) 2 q r) : q = ((x / 2 : Nat) : Int) := by
  unfold DM at h
  omega
theorem bits_room {m k a : Nat} (h : 2 ^ k ≤ m) (hm : m < ten a) : k < 4 * a := by
  rcases Nat.lt_or_ge k (4 * a) with h1 | h1
  · exact h1
  · exfalso
    have h2 : 2 ^ (4 * a) ≤ 2 ^ k := Nat.pow_le_pow_right (by decide) h1
    have h3 : ten a ≤ 16 ^ a := Nat.pow_le_pow_left (by decide) a
    have h4 : (16 : Nat) ^ a = 2 ^ (4 * a) := by rw [Nat.pow_mul]
    omega
theorem bits_end {m k : Nat} (h : k = 0 ∨ 2 ^ (k - 1) ≤ m) (h0 : m / 2 ^ k = 0) : Len2 m k := by
  have hp : 0 < 2 ^ k := Nat.pow_pos (by decide)
  have hlt : m < 2 ^ k := by
    rcases Nat.div_eq_zero_iff.mp h0 with h1 | h1
    · omega
    · exact h1
  refine ⟨fun hm => ?_, fun hm => ?_⟩
  · rcases h with h | h
    · exact h
    · have : 0 < 2 ^ (k - 1) := Nat.pow_pos (by decide)
      omega
  · rcases h with h | h
    · subst h; simp at hlt; omega
    · rcases Nat.eq_zero_or_pos k with h1 | h1
      · subst h1; simp at hlt; omega
      · exact ⟨h1, h, hlt⟩
theorem bits_next {m k : Nat} (h : m / 2 ^ k ≠ 0) : 2 ^ (k + 1 - 1) ≤ m ∧ m / 2 ^ k / 2 = m / 2 ^ (k + 1) := by
  refine ⟨?_, by rw [Nat.pow_succ, Nat.div_div_eq_div_mul]⟩
  rw [Nat.add_sub_cancel]
  rcases Nat.lt_or_ge m (2 ^ k) with h1 | h1
  · exact absurd (Nat.div_eq_of_lt h1) h
  · exact h1
theorem len2_unique {m l l' : Nat} (h : Len2 m l) (h' : Len2 m l') : l = l' := by
  rcases Nat.eq_zero_or_pos m with h0 | h0
  · rw [h.1 h0, h'.1 h0]
  · obtain ⟨a1, a2, a3⟩ := h.2 h0
    obtain ⟨b1, b2, b3⟩ := h'.2 h0
    rcases Nat.lt_trichotomy l l' with h1 | h1 | h1
    · have : 2 ^ l ≤ 2 ^ (l' - 1) := Nat.pow_le_pow_right (by decide) (by omega)
      omega
    · exact h1
    · have : 2 ^ l' ≤ 2 ^ (l - 1) := Nat.pow_le_pow_right (by decide) (by omega)
      omega
theorem bits_size {m n : Nat} (hm : m < ten 3000) (hn : n ≤ m) : (txt (n : Int)).size ≤ 4000 := by
  have := txt_size (n : Int) (k := 3000) (by rw [Int.natAbs_natCast]; omega) (by decide)
  omega
def BitsInv (w0 : World) (m : Nat) (va vn : Value) (wr : World) : Prop :=
  ∃ k : Nat, va = .string (txt ((m / 2 ^ k : Nat) : Int)) ∧ vn = .int .i64 (k : Nat) ∧ (k = 0 ∨ 2 ^ (k - 1) ≤ m) ∧ k ≤ 16000 ∧ Below w0.heap.size w0 wr
set_option maxRecDepth 100000 in
set_option maxHeartbeats 8000000 in
theorem refBits_any (z : Int) (w : World) (hs : (txt z).size ≤ 3000) :
    Calls Tryd.prog 26 #[.string (txt z)] w fun e w' => (∃ l : Nat, e = .returned (.int .i64 (l : Nat)) ∧ Len2 z.natAbs l) ∧ Below w.heap.size w w' := by
  have Hdz := Lib.hid (fun w => refDigits_at z w (by omega))
  obtain ⟨S, hS⟩ : ∃ S, txt z = S := ⟨_, rfl⟩
  rw [hS] at Hdz hs ⊢
  obtain ⟨m, hm⟩ : ∃ m, z.natAbs = m := ⟨_, rfl⟩
  rw [hm] at Hdz ⊢
  have Lm := Lib.hid (show m < ten 3000 by
    have h1 := digN_lt m
    have h2 := @digN_sz z
    rw [hS, hm] at h2
    exact Nat.lt_of_lt_of_le h1 (ten_le (by omega)))
  have Lm2 := Lib.hid (Nat.lt_of_lt_of_le Lm.out (ten_le (show 3000 ≤ 4000 by decide)))
  clear hS hm
  go_enter Tryd.func26, Tryd.ntmps26
  go_wp2_with fail
  refine (Hdz.out _).mono ?_
  rintro e w1 ⟨A, n, c, rfl, hd1, hn1, h1⟩
  have K1 := Lib.hid h1
  have Ht := Lib.hid (by have := refText_any false A n c _ w1 hd1.isl (by omega) hd1.cap (dig_digN _); rw [textOf_sign false (dig_digN _), dval_digN] at this; exact this)
  clear h1 hd1
  go_wp2_with fail
  refine Ht.out.mono ?_
  rintro e w2 ⟨rfl, h2⟩
  have K2 := Lib.hid (below_on K1.out h2)
  clear h2
  go_wp2_with fail
  go_loopw [3, 4] (fun va vn wr => BitsInv w m va vn wr) (fun _ vn _ => 16001 - (intOf vn).toNat)
  case atStart => exact ⟨0, by rw [Nat.pow_zero, Nat.div_one]; rfl, rfl, .inl rfl, by decide, K2.out⟩
  case round =>
    obtain ⟨k, rfl, rfl, hk, hk16, hbel⟩ := hrel
    have Hk := Lib.hid hk
    have Hbel := Lib.hid hbel
    clear hk hbel
    obtain ⟨x, hx⟩ : ∃ x, m / 2 ^ k = x := ⟨_, rfl⟩
    have Hx := Lib.hid hx
    rw [hx]
    clear hx
    rcases Nat.eq_zero_or_pos x with h0 | h0
    · subst h0
      have Hfin := Lib.hid (bits_end Hk.out Hx.out)
      rw [show ((0 : Nat) : Int) = 0 from rfl, txt_zero]
      go_wp2
      go_ret
      exact ⟨⟨k, rfl, Hfin.out⟩, Hbel.out⟩
    · have hn0 := txt_not0 (z := (x : Int)) (by omega)
      obtain ⟨g1, g2⟩ := bits_next (k := k) (by rw [Hx.out]; omega)
      have g3 := bits_room (k := k) (by rwa [Nat.add_sub_cancel] at g1) Lm2.out
      have G1 := Lib.hid g1
      rw [Hx.out] at g2
      have G2 := Lib.hid g2
      have Hdm := Lib.hid (fun w => refDivMod_any (x : Int) 2 w (bits_size Lm.out (by rw [← Hx.out]; exact Nat.div_le_self _ _)) (by rw [txt_2]; decide) (by decide))
      rw [txt_2] at Hdm
      obtain ⟨X, hX⟩ : ∃ X, txt (x : Int) = X := ⟨_, rfl⟩
      rw [hX] at hn0 Hdm ⊢
      clear hX g1 g2
      go_wp2_with fail
      refine (Hdm.out _).mono ?_
      rintro e w3 ⟨⟨q, r, rfl, hq⟩, h3⟩
      have Hq := Lib.hid ((dm_two hq).trans (by rw [G2.out]))
      have K3 := Lib.hid (below_on Hbel.out h3)
      clear h3 hq
      go_wp2_with fail
      exact ⟨⟨k + 1, by rw [Hq.out], by go_num, .inr G1.out, by omega, K3.out⟩, by simp [intOf] <;> omega⟩
end Go.Proofs.YtegndbiglehacaaDoor
