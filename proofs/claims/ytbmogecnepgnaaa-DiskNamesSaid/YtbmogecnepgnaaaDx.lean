/- few. -/
import Derived.Test.YtbmogecnepgnaaaDw
namespace Go.Proofs.Ytbmogecnepgnaaa
open Go.RowKit Go.Maps Go.Shelf
/-- An act. -/
structure Ac where
  kind : Nat
  name : ByteArray
  dst : ByteArray
  num : Int
  sA : Option Addr
  sn : Nat
  sc : Nat
def acCells (x : Ac) : List Value := [.int .u8 (x.kind : Nat), .string x.name, .string x.dst, .int .i8 x.num, .slice x.sA x.sn x.sc]
def ActsAt (w : World) (A : Option Addr) (l : List Ac) : Prop := ∀ i x, l[i]? = some x → ∃ g o, A = some ⟨g, o, none⟩ ∧ g < w.heap.size ∧ ∀ j u, (acCells x)[j]? = some u → w.cell? ⟨g, o + (5 * i + j), none⟩ = some u
theorem ActsAt.keep {w w' : World} {A : Option Addr} {l : List Ac} (h : ActsAt w A l) (hb : Below w.heap.size w w') : ActsAt w' A l := fun i x hx =>
  let ⟨g, o, e, hl, hc⟩ := h i x hx
  ⟨g, o, e, Nat.lt_of_lt_of_le hl hb.size, fun j u hu => (hb.cell (p := ⟨g, o + (5 * i + j), none⟩) hl).trans (hc j u hu)⟩
def ac1 (x : Ac) : Bool := decide (x.name.size ≤ 50) && decide (x.dst.size ≤ 50) && decide (x.sn ≤ 12)
def fewB (l : List Ac) : Bool := l.all ac1 && decide (l.length ≤ 40)
set_option maxRecDepth 100000 in
set_option maxHeartbeats 8000000 in
theorem few_any {w : World} {A : Option Addr} {l : List Ac} {n c : Nat} (h : ActsAt w A l) (hn : l.length = n) (hnm : n ≤ 9223372036854775807) :
    Calls Try.prog 12 #[.slice A n c] w fun e w' => e = .returned (.bool (fewB l)) ∧ w' = w := by
  have H := Lib.hid h
  have HN := Lib.hid hn
  clear h hn
  go_enter Try.func12, Try.ntmps12
  go_wp2_with fail
  go_loopw [3] (fun i wr => ∃ j : Nat, i = .int .i64 (j : Nat) ∧ j ≤ n ∧ (l.take j).all ac1 = true ∧ w = wr) (fun i _ => n - (intOf i).toNat)
  case atStart => exact ⟨0, rfl, Nat.zero_le _, rfl, rfl⟩
  case round =>
    obtain ⟨j, rfl, hj, hall, rfl⟩ := hrel
    have HA := Lib.hid hall
    clear hall
    by_cases hlt : j < n
    · have i1 : (j : Int) < (n : Int) := by omega
      have i2 : IntKind.i64.wrap ((j : Int) + 1) = (j : Int) + 1 := IntWalk.i64_in _ (by omega)
      obtain ⟨x, hx⟩ : ∃ x, l[j]? = some x := ⟨_, List.getElem?_eq_getElem (by have := HN.out; omega)⟩
      obtain ⟨g, o, e, _, hc⟩ := H.out j x hx
      subst e
      have z1 := hc 1 _ rfl
      have z2 := hc 2 _ rfl
      have z4 := hc 4 _ rfl
      rw [show o + (5 * j + 1) = o + j * 5 + 1 by omega] at z1
      rw [show o + (5 * j + 2) = o + j * 5 + 2 by omega] at z2
      rw [show o + (5 * j + 4) = o + j * 5 + 4 by omega] at z4
      have HX := Lib.hid hx
      have hjl : j < n := hlt
      clear hc hx
      have stop : ac1 x = false → fewB l = false := fun h => by
        unfold fewB
        rw [Bool.and_eq_false_iff]
        left
        rw [List.all_eq_false]
        exact ⟨x, List.mem_of_getElem? HX.out, by rw [h]; decide⟩
      have HST := Lib.hid stop
      clear stop
      by_cases h1 : 50 < x.name.size
      · have j1 : (50 : Int) < (x.name.size : Int) := by omega
        go_wp2_with fail
        go_ret
        exact ⟨by rw [HST.out (by unfold ac1; rw [decide_eq_false (show ¬ x.name.size ≤ 50 by omega)]; rfl)]; rfl, rfl⟩
      · have j1 : ¬ (50 : Int) < (x.name.size : Int) := by omega
        by_cases h2 : 50 < x.dst.size
        · have j2 : (50 : Int) < (x.dst.size : Int) := by omega
          go_wp2_with fail
          go_ret
          exact ⟨by rw [HST.out (by unfold ac1; rw [decide_eq_false (show ¬ x.dst.size ≤ 50 by omega), Bool.and_false]; rfl)]; rfl, rfl⟩
        · have j2 : ¬ (50 : Int) < (x.dst.size : Int) := by omega
          by_cases h3 : 12 < x.sn
          · have j3 : (12 : Int) < (x.sn : Int) := by omega
            go_wp2_with fail
            go_ret
            exact ⟨by rw [HST.out (by unfold ac1; rw [decide_eq_false (show ¬ x.sn ≤ 12 by omega), Bool.and_false])]; rfl, rfl⟩
          · have j3 : ¬ (12 : Int) < (x.sn : Int) := by omega
            have HT := Lib.hid (show (l.take (j + 1)).all ac1 = true by
              rw [List.take_add_one, HX.out, List.all_append, HA.out]
              show (true && (ac1 x && true)) = true
              unfold ac1
              rw [decide_eq_true (show x.name.size ≤ 50 by omega), decide_eq_true (show x.dst.size ≤ 50 by omega), decide_eq_true (show x.sn ≤ 12 by omega)]
              rfl)
            clear h1 h2 h3
            go_wp2_with fail
            go_roundw
            case rel => exact ⟨j + 1, by go_num, by omega, HT.out, by first | rfl | trivial⟩
            case measure => simp [intOf]; omega
    · have i1 : ¬ (j : Int) < (n : Int) := by omega
      have hjn : j = n := by omega
      subst hjn
      go_wp2_with fail
      go_ret
      refine ⟨?_, rfl⟩
      have h1 := HA.out
      rw [List.take_of_length_le (by have := HN.out; omega)] at h1
      unfold fewB
      rw [h1, HN.out, Bool.true_and]
      have e : decide ((j : Int) ≤ 40) = decide (j ≤ 40) := decide_eq_decide.2 ⟨fun h => by omega, fun h => by omega⟩
      show Ending.returned (Value.bool (decide ((j : Int) ≤ 40))) = _
      rw [e]
end Go.Proofs.Ytbmogecnepgnaaa
