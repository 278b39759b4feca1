/- The reference: the first broken rule. -/
import Derived.Test.YtmfmpkihmadjmaaVz
namespace Go.Proofs.Ytmfmpkihmadjmaa
open Go.RowKit Go.Shelf
/-- Truth values in memory. -/
def BoolL (w : World) (A : Option Addr) (l : List Bool) : Prop :=
  ∀ k x, l[k]? = some x → ∃ b o, A = some ⟨b, o, none⟩ ∧ b < w.heap.size ∧ w.cell? ⟨b, o + k, none⟩ = some (.bool x)
theorem BoolL.keep {w w' : World} {A : Option Addr} {l : List Bool} (h : BoolL w A l) (hb : Below w.heap.size w w') : BoolL w' A l :=
  fun k x hk => let ⟨b, o, e1, hlt, hc⟩ := h k x hk; ⟨b, o, e1, Nat.lt_of_lt_of_le hlt hb.size, (hb.cell (p := ⟨b, o + k, none⟩) hlt).trans hc⟩
/-- Whether rule number i is broken. -/
def badR (rs : List (ByteArray × List (Nat × Bool))) (out : List Bool) (set i : Nat) : Bool := !(out.getD i true) && !((rs.getD i (ByteArray.empty, [])).2.any (litR set))
def brkR (rs : List (ByteArray × List (Nat × Bool))) (out : List Bool) (set : Nat) : Int := match (List.range rs.length).find? (badR rs out set) with
  | some i => (i : Int)
  | none => -1
theorem brkR_none {rs : List (ByteArray × List (Nat × Bool))} {out : List Bool} {set : Nat} (h : ∀ i, i < rs.length → badR rs out set i = false) : brkR rs out set = -1 := by
  unfold brkR
  rw [List.find?_eq_none.2 (fun i hi => by rw [h i (List.mem_range.1 hi)]; decide)]
theorem brkR_some {rs : List (ByteArray × List (Nat × Bool))} {out : List Bool} {set j : Nat} (hj : j < rs.length) (h : ∀ i, i < j → badR rs out set i = false) (hb : badR rs out set j = true) : brkR rs out set = (j : Int) := by
  unfold brkR
  rw [List.find?_range_eq_some.2 ⟨hb, List.mem_range.2 hj, fun i hi => by rw [h i hi]; rfl⟩]
set_option maxRecDepth 100000 in
set_option maxHeartbeats 8000000 in
theorem broken_any (f : Fm) (rs : List (ByteArray × List (Nat × Bool))) (A : Option Addr) (m c : Nat) (out : List Bool) (set : Nat) (w : World) (h : RuleL w f.RA rs) (hrl : rs.length = f.rn) (hrn : f.rn ≤ 1000) (hlow : ∀ r ∈ rs, (∀ l ∈ r.2, l.1 < 6) ∧ r.2.length ≤ 1000) (ho : BoolL w A out) (hol : out.length = f.rn) (hm : m = f.rn) (hs : set < 64) :
    Calls Try.prog 16 #[f.v, .slice A m c, .int .i64 (set : Nat)] w fun e w' => e = .returned (.int .i64 (brkR rs out set)) ∧ Below w.heap.size w w' := by
  subst hm
  have k1 := (Below.refl w.heap.size w).alloc (Nat.le_refl _) (.cells f.cells 40)
  have P1 := Cells.new w f.cells 40
  have K1 := Lib.hid k1
  have HP1 := Lib.hid P1
  clear k1 P1
  go_enter Try.func16, Try.ntmps16
  go_wp2_with fail
  go_loopw [7] (fun i wr => ∃ j : Nat, i = .int .i64 (j : Nat) ∧ j ≤ f.rn ∧ Cells wr w.heap.size f.cells.toList ∧ Below w.heap.size w wr ∧ ∀ i, i < j → badR rs out set i = false) (fun i _ => f.rn - (intOf i).toNat)
  case atStart => exact ⟨0, rfl, Nat.zero_le _, HP1.out, K1.out, fun i hi => absurd hi (Nat.not_lt_zero _)⟩
  case round =>
    obtain ⟨j, rfl, hj, hP, hb, hpre⟩ := hrel
    have B1 := Lib.hid hb
    have P1 := Lib.hid hP
    have Hpre := Lib.hid hpre
    have c7 := hP.at_ 7
    simp only [List.getElem?_cons_zero, List.getElem?_cons_succ] at c7
    by_cases hlt : j < f.rn
    · have Hlt := Lib.hid hlt
      obtain ⟨r, b, o, A', c', hr, hRA, _, hc0, hc1, hL⟩ := (h.keep hb).at_ (k := j) (by omega)
      obtain ⟨x, hx⟩ : ∃ x, out[j]? = some x := ⟨_, List.getElem?_eq_getElem (by omega)⟩
      obtain ⟨b2, o2, rfl, _, hc2⟩ := (ho.keep hb) j x hx
      rw [hRA] at c7
      have i1 : (j : Int) < (f.rn : Int) := by omega
      have hbad : badR rs out set j = (!x && !(r.2.any (litR set))) := by
        unfold badR
        rw [List.getD_eq_getElem?_getD, List.getD_eq_getElem?_getD, hx, hr]
        rfl
      have hlo := hlow r (List.mem_of_getElem? hr)
      have HO := Lib.hid (oneR_any A' r.2.length c' set r.2 wr hL rfl (by omega) hlo.1 hs)
      obtain ⟨p, hp⟩ : ∃ p, r.2.any (litR set) = p := ⟨_, rfl⟩
      rw [hp] at hbad HO
      have Hbad := Lib.hid hbad
      have Hrl := Lib.hid hrl
      clear hbad hr hx hlo hp hL h ho hlow hb hP hpre hc0 hRA hrl hol
      cases x
      · go_wp2_with fail
        refine HO.out.mono ?_
        rintro e w1 ⟨rfl, hb1⟩
        have B2 := Lib.hid (below_on B1.out hb1)
        have P2 := Lib.hid (P1.out.keep hb1)
        clear hb1 c7 hc1 hc2
        cases p
        · go_wp2_with fail
          go_ret
          refine ⟨?_, B2.out⟩
          rw [brkR_some (by rw [Hrl.out]; exact Hlt.out) Hpre.out Hbad.out]
          rfl
        · go_wp2_with fail
          go_roundw
          case rel => exact ⟨j + 1, by go_num, Hlt.out, P2.out, B2.out, fun i hi => by
            rcases Nat.lt_or_ge i j with h3 | h3
            · exact Hpre.out i h3
            · rw [show i = j by omega]; exact Hbad.out⟩
          case measure => simp [intOf]; have := Hlt.out; omega
      · go_wp2_with fail
        go_roundw
        case rel => exact ⟨j + 1, by go_num, Hlt.out, P1.out, B1.out, fun i hi => by
          rcases Nat.lt_or_ge i j with h3 | h3
          · exact Hpre.out i h3
          · rw [show i = j by omega]; exact Hbad.out⟩
        case measure => simp [intOf]; have := Hlt.out; omega
    · have hjn : j = f.rn := by omega
      subst hjn
      have HN := Lib.hid (brkR_none (rs := rs) (out := out) (set := set) (fun i hi => hpre i (by omega)))
      clear h ho hlow hb hP hpre
      go_wp2_with fail
      go_ret
      refine ⟨?_, B1.out⟩
      rw [HN.out]
      rfl
end Go.Proofs.Ytmfmpkihmadjmaa
