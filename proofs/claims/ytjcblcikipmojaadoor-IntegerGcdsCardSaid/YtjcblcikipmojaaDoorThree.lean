/- What stays while a statement of three variables goes on. -/
import Derived.Test.YtjcblcikipmojaaDoorArith
import Derived.Test.YtjcblcikipmojaaDoorLaw
import Derived.Test.YtjcblcikipmojaaDoorMulZ
import Derived.Test.YtjcblcikipmojaaDoorSubZ
import Derived.Deep.RegionHeld3
import Derived.Deep.DeepCutAuto
namespace Go.Proofs.YtjcblcikipmojaaDoor
open Go.RowKit

theorem digN_size {z : Int} : (digN z.natAbs).length ≤ (txt z).size := by
  by_cases h0 : z = 0
  · subst h0; rw [show (0 : Int).natAbs = 0 from rfl, digN_zero]; exact Nat.zero_le _
  · rw [txt_ne h0, strOfNums_size, List.length_append, List.length_map, List.length_reverse]
    omega
theorem zOf_lt {s : ByteArray} (h : okT s = true) : (zOf s).natAbs < base 7 := by
  obtain ⟨h1, h2⟩ := okT_true h
  have e := txt_zOf h2
  have hl := @digN_size (zOf s)
  rw [e] at hl
  refine Nat.lt_of_lt_of_le (digN_lt _) (Nat.le_trans (ten_le (show _ ≤ 120 by omega)) ?_)
  decide +kernel
theorem base_mono {a b m : Nat} (h : m < base a) (hab : a ≤ b) : m < base b := Nat.lt_of_lt_of_le h (base_le hab)
theorem base_add {a b m n : Nat} (hm : m < base a) (hn : n < base b) : m * n < base (a + b) := by
  have e : base (a + b) = base a * base b := by unfold base; rw [Nat.pow_add]
  rw [e]
  exact Nat.mul_lt_mul'' hm hn
theorem base_two (a : Nat) : 2 * base a ≤ base (a + 1) := by rw [base_succ]; exact Nat.mul_le_mul_right _ (by decide)
theorem sgn_sub (z k : Int) : sgn (z - k) = cmpZ z k := by
  unfold sgn cmpZ
  by_cases h1 : z < k
  · rw [if_pos h1, if_pos (by omega)]
  · by_cases h2 : k < z
    · rw [if_neg h1, if_pos h2, if_neg (by omega), if_pos (by omega)]
    · rw [if_neg h1, if_neg h2, if_neg (by omega), if_neg (by omega)]
theorem cmpZ_add (z k l : Int) : cmpZ (z + l) (k + l) = cmpZ z k := by
  unfold cmpZ
  by_cases h1 : z < k
  · rw [if_pos h1, if_pos (by omega)]
  · by_cases h2 : k < z
    · rw [if_neg h1, if_pos h2, if_neg (by omega), if_pos (by omega)]
    · rw [if_neg h1, if_neg h2, if_neg (by omega), if_neg (by omega)]
theorem cmpZ_mul {l : Int} (z k : Int) (hl : 0 < l) : cmpZ (z * l) (k * l) = cmpZ z k := by
  unfold cmpZ
  by_cases h1 : z < k
  · rw [if_pos h1, if_pos (Int.mul_lt_mul_of_pos_right h1 hl)]
  · by_cases h2 : k < z
    · have h3 := Int.mul_lt_mul_of_pos_right h2 hl
      rw [if_neg h1, if_pos h2, if_neg (by omega), if_pos h3]
    · have : z = k := by omega
      subst this
      rw [if_neg h1, if_neg h1, if_neg (by omega), if_neg (by omega)]
theorem cmpZ_self (z : Int) : cmpZ z z = 0 := by unfold cmpZ; rw [if_neg (by omega), if_neg (by omega)]
theorem cmpZ_cases (z k : Int) : (z < k ∧ cmpZ z k = -1) ∨ (z = k ∧ cmpZ z k = 0) ∨ (k < z ∧ cmpZ z k = 1) := by
  unfold cmpZ
  by_cases h1 : z < k
  · exact .inl ⟨h1, if_pos h1⟩
  · by_cases h2 : k < z
    · exact .inr (.inr ⟨h2, by rw [if_neg h1, if_pos h2]⟩)
    · exact .inr (.inl ⟨by omega, by rw [if_neg h1, if_neg h2]⟩)
/-- What stays while a statement of three variables goes on. -/
theorem three_call {wm wx w' : World} {p0 p1 p2 : Nat} {a0 a1 a2 z k l : Int} {P0 P1 P2 : Option Addr} (V0 : Hid (Var wm p0 a0 P0 z)) (V1 : Hid (Var wm p1 a1 P1 k)) (V2 : Hid (Var wm p2 a2 P2 l)) (h : wx.cell? ⟨p0, 0, none⟩ = some (.int .i64 a0) ∧ wx.cell? ⟨p0, 1, none⟩ = some (.pointer P0) ∧ wx.cell? ⟨p1, 0, none⟩ = some (.int .i64 a1) ∧ wx.cell? ⟨p1, 1, none⟩ = some (.pointer P1) ∧ wx.cell? ⟨p2, 0, none⟩ = some (.int .i64 a2) ∧ wx.cell? ⟨p2, 1, none⟩ = some (.pointer P2) ∧ Below wm.heap.size wm wx) (hb : Below wx.heap.size wx w') : w'.cell? ⟨p0, 0, none⟩ = some (.int .i64 a0) ∧ w'.cell? ⟨p0, 1, none⟩ = some (.pointer P0) ∧ w'.cell? ⟨p1, 0, none⟩ = some (.int .i64 a1) ∧ w'.cell? ⟨p1, 1, none⟩ = some (.pointer P1) ∧ w'.cell? ⟨p2, 0, none⟩ = some (.int .i64 a2) ∧ w'.cell? ⟨p2, 1, none⟩ = some (.pointer P2) ∧ Below wm.heap.size wm w' := by
  have hk := below_on h.2.2.2.2.2.2 hb
  exact ⟨(V0.out.keep hk).c0, (V0.out.keep hk).c1, (V1.out.keep hk).c0, (V1.out.keep hk).c1, (V2.out.keep hk).c0, (V2.out.keep hk).c1, hk⟩
theorem three_start {wm : World} {p0 p1 p2 : Nat} {a0 a1 a2 z k l : Int} {P0 P1 P2 : Option Addr} (V0 : Hid (Var wm p0 a0 P0 z)) (V1 : Hid (Var wm p1 a1 P1 k)) (V2 : Hid (Var wm p2 a2 P2 l)) {w' : World} (hk : Below wm.heap.size wm w') : w'.cell? ⟨p0, 0, none⟩ = some (.int .i64 a0) ∧ w'.cell? ⟨p0, 1, none⟩ = some (.pointer P0) ∧ w'.cell? ⟨p1, 0, none⟩ = some (.int .i64 a1) ∧ w'.cell? ⟨p1, 1, none⟩ = some (.pointer P1) ∧ w'.cell? ⟨p2, 0, none⟩ = some (.int .i64 a2) ∧ w'.cell? ⟨p2, 1, none⟩ = some (.pointer P2) ∧ Below wm.heap.size wm w' :=
  ⟨(V0.out.keep hk).c0, (V0.out.keep hk).c1, (V1.out.keep hk).c0, (V1.out.keep hk).c1, (V2.out.keep hk).c0, (V2.out.keep hk).c1, hk⟩
end Go.Proofs.YtjcblcikipmojaaDoor
