/- The reference's Neg, Add and Sub. -/
import Derived.Test.YtegndbiglehacaaDoorRef4
import Derived.Test.YtegndbiglehacaaDoorArith
namespace Go.Proofs.YtegndbiglehacaaDoor
open Go.RowKit

set_option maxRecDepth 100000 in
set_option maxHeartbeats 4000000 in
theorem refNeg_any (z : Int) (w : World) (hs : (txt z).size ≤ 1000) :
    Calls Tryd.prog 29 #[.string (txt z)] w fun e w' => e = .returned (.string (txt (-z))) ∧ Below w.heap.size w w' := by
  have Hsz := Lib.hid (fun w => refSign_any z w hs)
  have Hdz := Lib.hid (fun w => refDigits_at z w hs)
  have hfin : ∀ b : Bool, b = decide (0 < sgn z) → textOf b (digN z.natAbs) = txt (-z) := fun b hb => textOf_txt (dig_digN _) (by rw [dval_digN]; omega) (fun h0 => by
    rw [hb]
    rcases sgn_cases z with ⟨h1, h2⟩ | ⟨h1, h2⟩ | ⟨h1, h2⟩ <;> rw [h2] <;> simp <;> omega)
  obtain ⟨S, hS⟩ : ∃ S, txt z = S := ⟨_, rfl⟩
  rw [hS] at Hsz Hdz hs ⊢
  obtain ⟨x, hx⟩ : ∃ x, sgn z = x := ⟨_, rfl⟩
  rw [hx] at Hsz hfin
  have Hfin := Lib.hid (hfin _ rfl)
  clear hS hx hfin
  go_enter Tryd.func29, Tryd.ntmps29
  go_wp2_with fail
  refine (Hsz.out _).mono ?_
  rintro e w1 ⟨rfl, rfl⟩
  go_wp2_with fail
  refine (Hdz.out _).mono ?_
  rintro e w1 ⟨A, n, c, rfl, hd1, hn1, h1⟩
  have K1 := Lib.hid h1
  have Ht := Lib.hid (refText_any (decide (0 < x)) A n c _ w1 hd1.isl (by omega) hd1.cap (dig_digN _))
  rw [Hfin.out] at Ht
  clear hd1 h1
  go_wp2_with fail
  refine Ht.out.mono ?_
  rintro e w2 ⟨rfl, h2⟩
  have K2 := Lib.hid (below_on K1.out h2)
  clear h2
  go_wp2
  go_ret
  exact ⟨rfl, K2.out⟩
end Go.Proofs.YtegndbiglehacaaDoor
