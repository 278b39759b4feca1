/- Which sets a predicate holds of: the first of them. -/
import Derived.Test.YthocdmlacfejkaaDoorLsts
namespace Go.Proofs.YthocdmlacfejkaaDoor
open Go.RowKit
def IdxPost (l : List Nat) (del : Nat → Bool) (w : World) (e : Ending) (w' : World) : Prop :=
  (((∀ x ∈ l, del x = false) ∧ e = .returned (.int .i64 (-1))) ∨ ∃ k x, l[k]? = some x ∧ del x = true ∧ (∀ y ∈ l.take k, del y = false) ∧ e = .returned (.int .i64 (k : Nat))) ∧ Below w.heap.size w w'
set_option maxRecDepth 100000 in
set_option maxHeartbeats 8000000 in
theorem index_any (B : Nat) (A : Option Addr) (c : Nat) (l : List Nat) (del : Nat → Bool) (y : Value) (w : World) (h : UL B w A l) (hl : ∀ x ∈ l, x < 18446744073709551616) (hn : l.length ≤ 1000)
    (hF : ∀ w' x, x < 18446744073709551616 → Below w.heap.size w w' → Calls Tryd.prog 98 #[.int .u64 (x : Nat), y] w' fun e w2 => e = .returned (.bool (del x)) ∧ Below w'.heap.size w' w2) :
    Calls Tryd.prog 117 #[.slice A l.length c, .func (.func 98) #[] #[y]] w (IdxPost l del w) := by
  have U0 := Lib.hid h
  have HF := Lib.hid hF
  have Hl := Lib.hid hl
  clear h hF hl
  go_enter Tryd.func117, Tryd.ntmps117
  go_wp2_with fail
  go_loopw [8] (fun i wr => ∃ j : Nat, i = .int .i64 (j : Nat) ∧ j ≤ l.length ∧ (∀ y ∈ l.take j, del y = false) ∧ Below w.heap.size w wr) (fun i _ => l.length - (intOf i).toNat)
  case atStart => exact ⟨0, rfl, Nat.zero_le _, fun y hy => by simp at hy, Below.refl _ _⟩
  case round =>
    obtain ⟨j, rfl, hj, hall, hb⟩ := hrel
    have Hall := Lib.hid hall
    have B6 := Lib.hid hb
    have U6 := Lib.hid (U0.out.keep hb)
    clear hall hb
    obtain ⟨wa, rfl⟩ : ∃ wa : World, wa = wr := ⟨_, rfl⟩
    by_cases hlt : j < l.length
    · obtain ⟨x, b, o, hx, rfl, _, _, hcell⟩ := U6.out.at_ hlt
      have Hlt := Lib.hid hlt
      have Hx := Lib.hid hx
      have hx64 := Hl.out x (List.mem_of_getElem? hx)
      have HFx := HF.out wa x hx64 B6.out
      obtain ⟨bx, hbx⟩ : ∃ bx, del x = bx := ⟨_, rfl⟩
      rw [hbx] at HFx
      have HFx := Lib.hid HFx
      have Hb := Lib.hid hbx
      clear hx hbx
      go_wp2_with fail
      refine HFx.out.mono ?_
      rintro e w7 ⟨rfl, hb7⟩
      have B7 := Lib.hid (below_on B6.out hb7)
      clear hb7
      cases bx
      · go_wp2_with fail
        go_roundw
        case rel => exact ⟨j + 1, by go_num, Hlt.out, fun y hy => by
          rw [List.take_add_one, Hx.out] at hy
          simp at hy
          rcases hy with hy | rfl
          · exact Hall.out y hy
          · exact Hb.out, B7.out⟩
        case measure => simp [intOf]; have := Hlt.out; omega
      · go_wp2_with fail
        go_ret
        exact ⟨.inr ⟨j, x, Hx.out, Hb.out, Hall.out, rfl⟩, B7.out⟩
    · have hjl : l.take j = l := List.take_of_length_le (by omega)
      rw [hjl] at Hall
      clear hjl
      go_wp2_with fail
      go_ret
      exact ⟨.inl ⟨Hall.out, rfl⟩, B6.out⟩
set_option maxRecDepth 100000 in
set_option maxHeartbeats 8000000 in
theorem leaves_any (p q : Nat) (L : Nat → Nat) (s : Nat) (w : World) (hc : Cells w p (sets L)) (hq : w.cell? ⟨q, 0, none⟩ = some (.pointer (some ⟨p, 0, none⟩))) (hL : ∀ i, Under 64 (L i)) (hs : s < 18446744073709551616) (hw : Good w) :
    Calls Tryd.prog 98 #[.int .u64 (s : Nat), .pointer (some ⟨q, 0, none⟩)] w fun e w' => e = .returned (.bool (!(lev L s 64 == s))) ∧ Below w.heap.size w w' := by
  have HR := Lib.hid (reach_any p L s w hc hL hs hw)
  obtain ⟨r, hr⟩ : ∃ r, lev L s 64 = r := ⟨_, rfl⟩
  rw [hr] at HR ⊢
  clear hc hL hs hw hr
  go_enter Tryd.func98, Tryd.ntmps98
  go_wp2_with fail
  refine HR.out.mono ?_
  rintro e w7 ⟨rfl, hb7⟩
  have B7 := Lib.hid hb7
  clear hb7
  go_wp2_with fail
  go_ret
  refine ⟨?_, B7.out⟩
  have h2 : ((r : Int) != (s : Int)) = !(r == s) := by
    rw [Bool.eq_iff_iff]
    simp
    omega
  rw [h2]
  rfl
end Go.Proofs.YthocdmlacfejkaaDoor
