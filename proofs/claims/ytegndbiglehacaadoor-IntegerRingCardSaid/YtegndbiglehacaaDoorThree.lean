/- What stays while a statement of three variables goes on. -/
import Derived.Test.YtegndbiglehacaaDoorLaw2
import Derived.Deep.RegionHeld3
import Derived.Deep.DeepCutAuto
namespace Go.Proofs.YtegndbiglehacaaDoor
open Go.RowKit

/-- What stays while a statement of three variables goes on. -/
theorem three_call {wm wx w' : World} {p0 p1 p2 : Nat} {a0 a1 a2 z k l : Int} {P0 P1 P2 : Option Addr} (V0 : Hid (Var wm p0 a0 P0 z)) (V1 : Hid (Var wm p1 a1 P1 k)) (V2 : Hid (Var wm p2 a2 P2 l)) (h : wx.cell? ⟨p0, 0, none⟩ = some (.int .i64 a0) ∧ wx.cell? ⟨p0, 1, none⟩ = some (.pointer P0) ∧ wx.cell? ⟨p1, 0, none⟩ = some (.int .i64 a1) ∧ wx.cell? ⟨p1, 1, none⟩ = some (.pointer P1) ∧ wx.cell? ⟨p2, 0, none⟩ = some (.int .i64 a2) ∧ wx.cell? ⟨p2, 1, none⟩ = some (.pointer P2) ∧ Below wm.heap.size wm wx) (hb : Below wx.heap.size wx w') : w'.cell? ⟨p0, 0, none⟩ = some (.int .i64 a0) ∧ w'.cell? ⟨p0, 1, none⟩ = some (.pointer P0) ∧ w'.cell? ⟨p1, 0, none⟩ = some (.int .i64 a1) ∧ w'.cell? ⟨p1, 1, none⟩ = some (.pointer P1) ∧ w'.cell? ⟨p2, 0, none⟩ = some (.int .i64 a2) ∧ w'.cell? ⟨p2, 1, none⟩ = some (.pointer P2) ∧ Below wm.heap.size wm w' := by
  have hk := below_on h.2.2.2.2.2.2 hb
  exact ⟨(V0.out.keep hk).c0, (V0.out.keep hk).c1, (V1.out.keep hk).c0, (V1.out.keep hk).c1, (V2.out.keep hk).c0, (V2.out.keep hk).c1, hk⟩
theorem three_start {wm : World} {p0 p1 p2 : Nat} {a0 a1 a2 z k l : Int} {P0 P1 P2 : Option Addr} (V0 : Hid (Var wm p0 a0 P0 z)) (V1 : Hid (Var wm p1 a1 P1 k)) (V2 : Hid (Var wm p2 a2 P2 l)) {w' : World} (hk : Below wm.heap.size wm w') : w'.cell? ⟨p0, 0, none⟩ = some (.int .i64 a0) ∧ w'.cell? ⟨p0, 1, none⟩ = some (.pointer P0) ∧ w'.cell? ⟨p1, 0, none⟩ = some (.int .i64 a1) ∧ w'.cell? ⟨p1, 1, none⟩ = some (.pointer P1) ∧ w'.cell? ⟨p2, 0, none⟩ = some (.int .i64 a2) ∧ w'.cell? ⟨p2, 1, none⟩ = some (.pointer P2) ∧ Below wm.heap.size wm w' :=
  ⟨(V0.out.keep hk).c0, (V0.out.keep hk).c1, (V1.out.keep hk).c0, (V1.out.keep hk).c1, (V2.out.keep hk).c0, (V2.out.keep hk).c1, hk⟩
end Go.Proofs.YtegndbiglehacaaDoor
