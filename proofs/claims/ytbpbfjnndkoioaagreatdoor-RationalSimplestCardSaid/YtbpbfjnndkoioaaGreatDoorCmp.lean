/- Compare and Sign of any integers. -/
import Derived.Test.YtbpbfjnndkoioaaGreatDoorInt1
import Derived.Test.YtbpbfjnndkoioaaGreatDoorInt5
import Derived.Test.YtbpbfjnndkoioaaGreatDoorFrom
import Derived.Deep.RegionHeld3
import Derived.Test.YtbpbfjnndkoioaaGreatDoorNum
import Derived.Test.YtbpbfjnndkoioaaGreatDoorBack
namespace Go.Proofs.YtbpbfjnndkoioaaGreatDoor
open Go.RowKit

set_option maxHeartbeats 1000000 in
theorem divmod_known (w : World) :
    Calls Tryz.prog 66 #[small (-7), small 2] w fun e w' => e = .returned (.tuple #[small (-4), small 1, .int .i64 0]) ∧ Below w.heap.size w w' := by
  go_enter Tryz.func66, Tryz.ntmps66
  go_wp2_with fail
  refine (sign_any 2 _).mono ?_
  rintro e w1 ⟨rfl, hb⟩
  simp only [show sgn 2 = 1 from by decide]
  obtain ⟨hc, hf⟩ := bcell hb
  have hz : w.heap.size + 4 ≤ w1.heap.size := by have := hb.size; simp at this; omega
  go_wp2_with fail
  go_quiet (fail)
  go_wp2
  go_quiet (fail)
  go_wp2
  refine bodyPost_ret (v := .tuple #[small (-4), small 1, .int .i64 0]) ?_ rfl ⟨rfl, ?_⟩
  · simp [results, Tryz.results66, go_sem, hc]
  · refine Below.setCell (Below.setCell (Below.setCell (Below.setCell (below_drewN ?_ _) (by first | exact Nat.le_refl _ | (simp <;> omega)) _) (by first | exact Nat.le_refl _ | (simp <;> omega)) _) (by first | exact Nat.le_refl _ | (simp <;> omega)) _) (by first | exact Nat.le_refl _ | (simp <;> omega)) _
    refine Below.trans ?_ (hb.mono (by first | exact Nat.le_refl _ | (simp <;> omega)))
    repeat (first | exact Below.refl _ _ | refine Below.alloc ?_ (by first | exact Nat.le_refl _ | (simp <;> omega)) _)
theorem text_at (n : Int) (l : List UInt8) (w : World) (hn : I64 n) (hw : Good w) (hl : Lib.itoa n = l) :
    Calls Tryz.prog 15 #[small n] w fun e w' => e = .returned (.string ⟨l.toArray⟩) ∧ Below w.heap.size w w' := by
  subst hl; exact text_any n w hn hw.1
theorem itoa1 : Lib.itoa (-4) = [45, 52] := by simp [Lib.itoa, Lib.decDigits]
theorem itoa2 : Lib.itoa 1 = [49] := by simp [Lib.itoa, Lib.decDigits]
theorem itoa3 : Lib.itoa (-1000) = [45, 49, 48, 48, 48] := by simp [Lib.itoa, Lib.decDigits]
theorem itoa4 : Lib.itoa 6 = [54] := by simp [Lib.itoa, Lib.decDigits]

set_option maxHeartbeats 1000000 in
theorem compare_small (a b : Int) (w : World) :
    Calls Tryz.prog 49 #[small a, small b] w fun e w' => e = .returned (.int .i64 (if a < b then -1 else if b < a then 1 else 0)) ∧ Below w.heap.size w w' := by
  rcases Int.lt_trichotomy a b with h | h | h
  · rw [if_pos h]
    go_enter Tryz.func49, Tryz.ntmps49
    go_wp2
    go_ret
    exact ⟨rfl, by repeat (first | exact Below.refl _ _ | refine Below.alloc ?_ (by first | exact Nat.le_refl _ | (simp <;> omega)) _)⟩
  · subst h
    rw [if_neg (by omega), if_neg (by omega)]
    go_enter Tryz.func49, Tryz.ntmps49
    go_wp2
    go_ret
    exact ⟨rfl, by repeat (first | exact Below.refl _ _ | refine Below.alloc ?_ (by first | exact Nat.le_refl _ | (simp <;> omega)) _)⟩
  · rw [if_neg (by omega), if_pos h]
    go_enter Tryz.func49, Tryz.ntmps49
    go_wp2
    go_ret
    exact ⟨rfl, by repeat (first | exact Below.refl _ _ | refine Below.alloc ?_ (by first | exact Nat.le_refl _ | (simp <;> omega)) _)⟩

/-- What stays while the last statement goes on: old memory, and the two variables lie there. -/
def Rest (w : World) (p q : Nat) (w' : World) : Prop := Below w.heap.size w w' ∧ p < w'.heap.size ∧ q < w'.heap.size
theorem Rest.old {w w' : World} {p q : Nat} (h : Rest w p q w') : Below w.heap.size w w' := h.1
theorem lawS_call {w wx w' : World} {p q : Nat} {n : Int} (h : wx.cell? ⟨p, 0, none⟩ = some (.int .i64 n) ∧ wx.cell? ⟨p, 1, none⟩ = some (.pointer none) ∧ wx.cell? ⟨q, 0, none⟩ = some (.int .i64 0) ∧ wx.cell? ⟨q, 1, none⟩ = some (.pointer none) ∧ Rest w p q wx)
    (hb : Below wx.heap.size wx w') :
    w'.cell? ⟨p, 0, none⟩ = some (.int .i64 n) ∧ w'.cell? ⟨p, 1, none⟩ = some (.pointer none) ∧ w'.cell? ⟨q, 0, none⟩ = some (.int .i64 0) ∧ w'.cell? ⟨q, 1, none⟩ = some (.pointer none) ∧ Rest w p q w' := by
  obtain ⟨h1, h2, h3, h4, hr⟩ := h
  exact ⟨(hb.cell (p := ⟨p, 0, none⟩) hr.2.1).trans h1, (hb.cell (p := ⟨p, 1, none⟩) hr.2.1).trans h2, (hb.cell (p := ⟨q, 0, none⟩) hr.2.2).trans h3, (hb.cell (p := ⟨q, 1, none⟩) hr.2.2).trans h4,
    hr.1.trans (hb.mono hr.1.size), Nat.lt_of_lt_of_le hr.2.1 hb.size, Nat.lt_of_lt_of_le hr.2.2 hb.size⟩
theorem sign_zero (w : World) : Calls Tryz.prog 33 #[small 0] w fun e w' => e = .returned (.int .i64 0) ∧ Below w.heap.size w w' := sign_any 0 w
theorem compare_zero (w : World) : Calls Tryz.prog 49 #[small 0, small 0] w fun e w' => e = .returned (.int .i64 0) ∧ Below w.heap.size w w' := compare_small 0 0 w
theorem itoa_zero : Lib.itoa 0 = [48] := by simp [Lib.itoa, Lib.decDigits]
def cmpZ (a b : Int) : Int := if a < b then -1 else if b < a then 1 else 0
theorem cmpZ_pos {z k : Int} (hz : 0 ≤ z) (hk : 0 ≤ k) : cmpN z.natAbs k.natAbs = cmpZ z k := by
  unfold cmpN cmpZ
  by_cases h1 : z < k
  · rw [if_pos h1, if_pos (by omega)]
  · by_cases h2 : k < z
    · rw [if_neg h1, if_pos h2, if_neg (by omega), if_pos (by omega)]
    · rw [if_neg h1, if_neg h2, if_neg (by omega), if_neg (by omega)]
theorem cmpZ_neg {z k : Int} (hz : z < 0) (hk : k < 0) : cmpN k.natAbs z.natAbs = cmpZ z k := by
  unfold cmpN cmpZ
  by_cases h1 : z < k
  · rw [if_pos h1, if_pos (by omega)]
  · by_cases h2 : k < z
    · rw [if_neg h1, if_pos h2, if_neg (by omega), if_pos (by omega)]
    · rw [if_neg h1, if_neg h2, if_neg (by omega), if_neg (by omega)]
theorem IsInt.any {B : Nat} {w : World} {v : Value} {z : Int} (h : IsInt B w v z) : IsInt 0 w v z := h.mono (Nat.zero_le _)
/-- The two ways of a value. -/
theorem IsInt.ways {B : Nat} {w : World} {v : Value} {z : Int} (h : IsInt B w v z) : (I64 z ∧ v = small z) ∨ (¬ I64 z ∧ ∃ p, v = .agg #[.int .i64 0, .pointer (some ⟨p, 0, none⟩)] ∧ p < w.heap.size ∧ w.cell? ⟨p, 0, none⟩ = some (.bool (decide (z < 0)))) := by
  rcases h with h | ⟨hz, p, A, n, c, xs, rfl, hp, _, _, c0, _⟩
  · exact .inl h
  · exact .inr ⟨hz, p, rfl, hp, c0⟩
theorem parts_at (v : Value) (z : Int) (w : World) (b : Bool) (hb : decide (z < 0) = b) (h : IsInt 0 w v z) :
    Calls Tryz.prog 60 #[v] w fun e w' => ∃ (A : Option Addr) (n c : Nat) (xs : List Nat), e = .returned (.tuple #[.slice A n c, .bool b]) ∧ IsNat 0 w' A n c xs z.natAbs ∧ Below w.heap.size w w' := by
  subst hb
  exact parts_any v z w h (Nat.zero_le _)

set_option maxRecDepth 100000 in
set_option maxHeartbeats 4000000 in
theorem compare_large (a b : Int) (P Q : Option Addr) (z k : Int) (w : World) (h : IsInt 0 w (.agg #[.int .i64 a, .pointer P]) z) (h' : IsInt 0 w (.agg #[.int .i64 b, .pointer Q]) k) (p : Nat) (hp : P = some ⟨p, 0, none⟩) :
    Calls Tryz.prog 49 #[.agg #[.int .i64 a, .pointer P], .agg #[.int .i64 b, .pointer Q]] w fun e w' => e = .returned (.int .i64 (cmpZ z k)) ∧ Below w.heap.size w w' := by
  subst hp
  obtain ⟨bz, hbz⟩ : ∃ bz, decide (z < 0) = bz := ⟨_, rfl⟩
  obtain ⟨bk, hbk⟩ : ∃ bk, decide (k < 0) = bk := ⟨_, rfl⟩
  have kk := ((Below.refl w.heap.size w).alloc (Nat.le_refl _) (.cells #[.int .i64 a, .pointer (some ⟨p, 0, none⟩)] 26)).alloc (by simp) (.cells #[.int .i64 b, .pointer Q] 26)
  have Hx := Lib.hid (parts_at _ z _ bz hbz (h.keep kk))
  have Hy := Lib.hid (fun w' (hb : Below w.heap.size w w') => parts_at _ k w' bk hbk (h'.keep hb))
  have Kk := Lib.hid kk
  have Hbz := Lib.hid hbz
  have Hbk := Lib.hid hbk
  clear h h' kk hbz hbk
  go_enter Tryz.func49, Tryz.ntmps49
  go_wp2_with fail
  refine Hx.out.mono ?_
  rintro e w1 ⟨A, n, c, xs, rfl, hx, h1⟩
  have e1 : w1.cell? ⟨w.heap.size + 1, 0, none⟩ = some (.int .i64 b) := (h1.cell (p := ⟨w.heap.size + 1, 0, none⟩) (by simp)).trans (by simp [go_sem])
  have e2 : w1.cell? ⟨w.heap.size + 1, 1, none⟩ = some (.pointer Q) := (h1.cell (p := ⟨w.heap.size + 1, 1, none⟩) (by simp)).trans (by simp [go_sem])
  have K1 := Lib.hid (Kk.out.trans (h1.mono (by simp; omega)))
  have Hnx := Lib.hid hx
  clear h1 hx
  go_wp2_with fail
  refine (Hy.out _ K1.out).mono ?_
  rintro e w2 ⟨A', n', c', ys, rfl, hy, h2⟩
  have Hnx2 := Lib.hid (Hnx.out.keep h2)
  have Hny := Lib.hid hy
  have K2 := Lib.hid (K1.out.trans (h2.mono K1.out.size))
  clear h2 hy e1 e2
  cases bz <;> cases bk
  · have hz := of_decide_eq_false Hbz.out
    have hk := of_decide_eq_false Hbk.out
    have He := Lib.hid (cmpZ_pos (z := z) (k := k) (by omega) (by omega))
    clear hz hk
    go_wp2_with fail
    refine (compareNat_any _ Hnx2.out Hny.out).mono ?_
    rintro e w3 ⟨rfl, h3⟩
    have K3 := Lib.hid (K2.out.trans (h3.mono K2.out.size))
    clear h3
    go_wp2
    go_ret
    exact ⟨by rw [← He.out]; rfl, K3.out⟩
  · have hz := of_decide_eq_false Hbz.out
    have hk := of_decide_eq_true Hbk.out
    have He := Lib.hid (show cmpZ z k = 1 by unfold cmpZ; rw [if_neg (by omega), if_pos (by omega)])
    clear hz hk
    go_wp2
    go_ret
    exact ⟨by rw [He.out]; rfl, K2.out⟩
  · have hz := of_decide_eq_true Hbz.out
    have hk := of_decide_eq_false Hbk.out
    have He := Lib.hid (show cmpZ z k = -1 by unfold cmpZ; rw [if_pos (by omega)])
    clear hz hk
    go_wp2
    go_ret
    exact ⟨by rw [He.out]; rfl, K2.out⟩
  · have hz := of_decide_eq_true Hbz.out
    have hk := of_decide_eq_true Hbk.out
    have He := Lib.hid (cmpZ_neg (z := z) (k := k) (by omega) (by omega))
    clear hz hk
    go_wp2_with fail
    refine (compareNat_any _ Hny.out Hnx2.out).mono ?_
    rintro e w3 ⟨rfl, h3⟩
    have K3 := Lib.hid (K2.out.trans (h3.mono K2.out.size))
    clear h3
    go_wp2
    go_ret
    exact ⟨by rw [← He.out]; rfl, K3.out⟩
set_option maxRecDepth 100000 in
set_option maxHeartbeats 4000000 in
theorem compare_mixed (a b : Int) (Q : Option Addr) (z k : Int) (w : World) (h : IsInt 0 w (.agg #[.int .i64 a, .pointer none]) z) (h' : IsInt 0 w (.agg #[.int .i64 b, .pointer Q]) k) (p : Nat) (hp : Q = some ⟨p, 0, none⟩) :
    Calls Tryz.prog 49 #[.agg #[.int .i64 a, .pointer none], .agg #[.int .i64 b, .pointer Q]] w fun e w' => e = .returned (.int .i64 (cmpZ z k)) ∧ Below w.heap.size w w' := by
  subst hp
  obtain ⟨bz, hbz⟩ : ∃ bz, decide (z < 0) = bz := ⟨_, rfl⟩
  obtain ⟨bk, hbk⟩ : ∃ bk, decide (k < 0) = bk := ⟨_, rfl⟩
  have kk := ((Below.refl w.heap.size w).alloc (Nat.le_refl _) (.cells #[.int .i64 a, .pointer none] 26)).alloc (by simp) (.cells #[.int .i64 b, .pointer (some ⟨p, 0, none⟩)] 26)
  have Hx := Lib.hid (parts_at _ z _ bz hbz (h.keep kk))
  have Hy := Lib.hid (fun w' (hb : Below w.heap.size w w') => parts_at _ k w' bk hbk (h'.keep hb))
  have Kk := Lib.hid kk
  have Hbz := Lib.hid hbz
  have Hbk := Lib.hid hbk
  clear h h' kk hbz hbk
  go_enter Tryz.func49, Tryz.ntmps49
  go_wp2_with fail
  refine Hx.out.mono ?_
  rintro e w1 ⟨A, n, c, xs, rfl, hx, h1⟩
  have e1 : w1.cell? ⟨w.heap.size + 1, 0, none⟩ = some (.int .i64 b) := (h1.cell (p := ⟨w.heap.size + 1, 0, none⟩) (by simp)).trans (by simp [go_sem])
  have e2 : w1.cell? ⟨w.heap.size + 1, 1, none⟩ = some (.pointer (some ⟨p, 0, none⟩)) := (h1.cell (p := ⟨w.heap.size + 1, 1, none⟩) (by simp)).trans (by simp [go_sem])
  have K1 := Lib.hid (Kk.out.trans (h1.mono (by simp; omega)))
  have Hnx := Lib.hid hx
  clear h1 hx
  go_wp2_with fail
  refine (Hy.out _ K1.out).mono ?_
  rintro e w2 ⟨A', n', c', ys, rfl, hy, h2⟩
  have Hnx2 := Lib.hid (Hnx.out.keep h2)
  have Hny := Lib.hid hy
  have K2 := Lib.hid (K1.out.trans (h2.mono K1.out.size))
  clear h2 hy e1 e2
  cases bz <;> cases bk
  · have hz := of_decide_eq_false Hbz.out
    have hk := of_decide_eq_false Hbk.out
    have He := Lib.hid (cmpZ_pos (z := z) (k := k) (by omega) (by omega))
    clear hz hk
    go_wp2_with fail
    refine (compareNat_any _ Hnx2.out Hny.out).mono ?_
    rintro e w3 ⟨rfl, h3⟩
    have K3 := Lib.hid (K2.out.trans (h3.mono K2.out.size))
    clear h3
    go_wp2
    go_ret
    exact ⟨by rw [← He.out]; rfl, K3.out⟩
  · have hz := of_decide_eq_false Hbz.out
    have hk := of_decide_eq_true Hbk.out
    have He := Lib.hid (show cmpZ z k = 1 by unfold cmpZ; rw [if_neg (by omega), if_pos (by omega)])
    clear hz hk
    go_wp2
    go_ret
    exact ⟨by rw [He.out]; rfl, K2.out⟩
  · have hz := of_decide_eq_true Hbz.out
    have hk := of_decide_eq_false Hbk.out
    have He := Lib.hid (show cmpZ z k = -1 by unfold cmpZ; rw [if_pos (by omega)])
    clear hz hk
    go_wp2
    go_ret
    exact ⟨by rw [He.out]; rfl, K2.out⟩
  · have hz := of_decide_eq_true Hbz.out
    have hk := of_decide_eq_true Hbk.out
    have He := Lib.hid (cmpZ_neg (z := z) (k := k) (by omega) (by omega))
    clear hz hk
    go_wp2_with fail
    refine (compareNat_any _ Hny.out Hnx2.out).mono ?_
    rintro e w3 ⟨rfl, h3⟩
    have K3 := Lib.hid (K2.out.trans (h3.mono K2.out.size))
    clear h3
    go_wp2
    go_ret
    exact ⟨by rw [← He.out]; rfl, K3.out⟩
/-- Compare of any integers. -/
theorem compare_any (v u : Value) (z k : Int) (w : World) (h : IsInt 0 w v z) (h' : IsInt 0 w u k) :
    Calls Tryz.prog 49 #[v, u] w fun e w' => e = .returned (.int .i64 (cmpZ z k)) ∧ Below w.heap.size w w' := by
  rcases h.ways with ⟨hz, rfl⟩ | ⟨hz, p, rfl, hp, c0⟩
  · rcases h'.ways with ⟨hk, rfl⟩ | ⟨hk, q, rfl, hq, d0⟩
    · exact compare_small z k w
    · exact compare_mixed _ _ _ z k w h h' q rfl
  · obtain ⟨b, Q, rfl⟩ := h'.form
    exact compare_large _ _ _ _ z k w h h' p rfl
set_option maxHeartbeats 4000000 in
theorem signZ_any (v : Value) (z : Int) (w : World) (h : IsInt 0 w v z) :
    Calls Tryz.prog 33 #[v] w fun e w' => e = .returned (.int .i64 (sgn z)) ∧ Below w.heap.size w w' := by
  rcases h.ways with ⟨hz, rfl⟩ | ⟨hz, p, rfl, hp, c0⟩
  · exact sign_any z w
  · unfold I64 at hz
    have e0 := (IsL.grow_cell (o := .cells #[.int .i64 0, .pointer (some ⟨p, 0, none⟩)] 26) hp 0).trans c0
    by_cases hneg : z < 0
    · have He := Lib.hid (show sgn z = -1 by unfold sgn; rw [if_pos hneg])
      rw [decide_eq_true hneg] at e0
      clear h hz c0 hneg
      go_enter Tryz.func33, Tryz.ntmps33
      go_wp2
      go_ret
      exact ⟨by rw [He.out]; rfl, (Below.refl _ _).alloc (Nat.le_refl _) _⟩
    · have He := Lib.hid (show sgn z = 1 by unfold sgn; rw [if_neg hneg, if_pos (by omega)])
      rw [decide_eq_false hneg] at e0
      clear h hz c0 hneg
      go_enter Tryz.func33, Tryz.ntmps33
      go_wp2
      go_ret
      exact ⟨by rw [He.out]; rfl, (Below.refl _ _).alloc (Nat.le_refl _) _⟩
end Go.Proofs.YtbpbfjnndkoioaaGreatDoor
