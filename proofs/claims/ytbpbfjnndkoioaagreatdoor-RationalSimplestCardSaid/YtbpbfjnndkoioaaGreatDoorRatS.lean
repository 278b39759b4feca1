/- Rationals: products. -/
import Derived.Test.YtbpbfjnndkoioaaGreatDoorRatR
import Derived.Test.YtbpbfjnndkoioaaGreatDoorPhase
import Derived.Deep.DeepCutAuto
namespace Go.Proofs.YtbpbfjnndkoioaaGreatDoor
open Go.RowKit

theorem var_put {w : World} {p : Nat} {a : Int} {P : Option Addr} {b : Int} {Q : Option Addr} {z : Int} (h : Hold w p a P) (hi : IsInt 0 w (.agg #[.int .i64 b, .pointer Q]) z) : Var ((w.setCell ⟨p, 0, none⟩ (.int .i64 b)).setCell ⟨p, 1, none⟩ (.pointer Q)) p b Q z := ⟨(h.store b Q).c0, (h.store b Q).c1, (h.store b Q).lt, hi.held h _ _⟩
theorem rat_mul_parts (p q : Rat) : (p * q).num = p.num / ((Nat.gcd p.num.natAbs q.den : Nat) : Int) * (q.num / ((Nat.gcd q.num.natAbs p.den : Nat) : Int)) ∧ (((p * q).den : Nat) : Int) = (p.den : Int) / ((Nat.gcd q.num.natAbs p.den : Nat) : Int) * ((q.den : Int) / ((Nat.gcd p.num.natAbs q.den : Nat) : Int)) := by
  have e : p * q = Rat.mul p q := rfl
  constructor
  · rw [e]; unfold Rat.mul; simp [Int.divExact_eq_ediv]
  · rw [e]; unfold Rat.mul; simp
theorem rat_prod (p q : Rat) : p * q = Rat.divInt (p.num * q.num) ((p.den * q.den : Nat) : Int) := by
  have e0 := Rat.divInt_mul_divInt p.num q.num (d₁ := p.den) (d₂ := q.den)
  rw [rat_self, rat_self] at e0
  rw [e0, Int.natCast_mul]
theorem quot_lt {z : Int} {g n : Nat} (h : z.natAbs < n) : (z / (g : Int)).natAbs < n := Nat.lt_of_le_of_lt (Int.natAbs_ediv_le_natAbs z g) h
end Go.Proofs.YtbpbfjnndkoioaaGreatDoor
