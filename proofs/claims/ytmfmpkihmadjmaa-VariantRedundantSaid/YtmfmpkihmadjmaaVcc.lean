/- Redundant. -/
import Derived.Test.YtmfmpkihmadjmaaVca
import Derived.Test.YtmfmpkihmadjmaaVcb
namespace Go.Proofs.Ytmfmpkihmadjmaa
open Go.RowKit Go.Shelf
/-- What the walk over the configurations carries. -/
structure RS (w W : World) (pF pV G : Nat) (fc : List Value) (bs : List Bool) : Prop where
  low : Below w.heap.size w W
  kF : Cells W pF fc
  kV : Cells W pV [.slice (some ⟨G, 0, none⟩) bs.length bs.length]
  kG : Cells W G (bs.map .bool)
theorem RS.keep {w W W' : World} {pF pV G : Nat} {fc : List Value} {bs : List Bool} (h : RS w W pF pV G fc bs) (hb : Below W.heap.size W W') : RS w W' pF pV G fc bs :=
  ⟨below_on h.low hb, h.kF.keep hb, h.kV.keep hb, h.kG.keep hb⟩
theorem RS.put {w W : World} {pF pV G : Nat} {fc : List Value} {bs : List Bool} (h : RS w W pF pV G fc bs) (hF : pF ≠ G) (hV : pV ≠ G) (hG : w.heap.size ≤ G) {i : Nat} (hi : i < bs.length) (x : Bool) : RS w (W.setCell ⟨G, i, none⟩ (.bool x)) pF pV G fc (bs.set i x) :=
  ⟨h.low.setCell (p := ⟨G, i, none⟩) hG _, h.kF.other hF i _, by rw [List.length_set]; exact h.kV.other hV i _, by rw [List.map_set]; exact h.kG.set i _ (by rw [List.length_map]; exact hi)⟩
set_option maxRecDepth 100000 in
set_option maxHeartbeats 8000000 in
theorem red1_any (c pF pV G : Nat) (f : Fm) (rs : List Ru) (bs : List Bool) (w W : World) (hc : c < 18446744073709551616) (h : RS w W pF pV G f.cells.toList bs) (hF : pF ≠ G) (hV : pV ≠ G) (hG : w.heap.size ≤ G)
    (hR : RuleL w f.RA rs) (hrl : rs.length = f.rn) (hr48 : f.rn ≤ 48) (hbl : bs.length = rs.length) (hlow : LowR rs) :
    Calls Try.prog 60 #[.int .u64 (c : Nat), .pointer (some ⟨pF, 0, none⟩), .pointer (some ⟨pV, 0, none⟩)] W fun e W' => e = .returned (.bool true) ∧
      ((rs.all (satB c) = true ∧ RS w W' pF pV G f.cells.toList bs) ∨ ∃ i, i < rs.length ∧ brkAt rs c i = true ∧ RS w W' pF pV G f.cells.toList (bs.set i false)) := by
  have hR := Lib.hid hR
  have hS := Lib.hid h
  have hlow := Lib.hid hlow
  have c7 := h.kF.at_ 7
  rw [show f.cells.toList[7]? = some (.slice f.RA f.rn f.rc) from rfl] at c7
  clear h
  go_enter Try.func60, Try.ntmps60
  go_wp2_with fail
  go_loopw [5, 6, 10] (fun _ _ i wr => ∃ j : Nat, i = .int .i64 (j : Nat) ∧ j ≤ f.rn ∧ (rs.take j).all (satB c) = true ∧ Below W.heap.size W wr) (fun _ _ i _ => f.rn - (intOf i).toNat)
  case atStart => exact ⟨0, rfl, Nat.zero_le _, by simp, Below.refl _ _⟩
  case round =>
    obtain ⟨j, rfl, hj, hall, hb⟩ := hrel
    have HS := Lib.hid (hS.out.keep hb)
    have HB := Lib.hid hb
    have HA := Lib.hid hall
    clear hb hall
    by_cases hlt : j < f.rn
    · have i1 : (j : Int) < (f.rn : Int) := by omega
      obtain ⟨r, b, o, A', d, hr, hRA, hbr, z0, z1, hl⟩ := (hR.out.keep HS.out.low).at_ (k := j) (by omega)
      have Hr := Lib.hid hr
      have hlr := hlow.out r (List.mem_of_getElem? hr)
      obtain ⟨q, hq⟩ : ∃ q, satB c r = q := ⟨_, rfl⟩
      have HC := Lib.hid (fun W2 (hb : Below wr.heap.size wr W2) => satisfies_any c r.1 A' r.2.length d r.2 W2 (hl.keep hb) rfl hlr.1 hc hlr.2)
      have hq' : r.2.any (litB c) = q := hq
      rw [hq'] at HC
      have Hq := Lib.hid hq
      rw [hRA]
      clear hr hl hlr hq hq' hc
      go_wp2_with fail
      refine (HC.out _ ((Below.refl wr.heap.size wr).alloc (Nat.le_refl _) _)).mono ?_
      rintro e w5 ⟨rfl, hb5⟩
      have HS5 := Lib.hid (HS.out.keep (((Below.refl wr.heap.size wr).alloc (Nat.le_refl _) (.cells #[.string r.1, .slice A' r.2.length d] 76)).trans (hb5.mono (by simp))))
      have HB5 := Lib.hid (below_on HB.out (((Below.refl wr.heap.size wr).alloc (Nat.le_refl _) (.cells #[.string r.1, .slice A' r.2.length d] 76)).trans (hb5.mono (by simp))))
      clear hb5
      cases q
      · have v0 := HS5.out.kV.at_ 0
        simp only [List.getElem?_cons_zero] at v0
        have hjb : j < bs.length := by omega
        have y0 := (HS5.out.kG.at_ j).trans (List.getElem?_eq_getElem (by rw [List.length_map]; exact hjb))
        have y1 := HS5.out.kG.fz j
        have i2 : (j : Int) < (bs.length : Int) := by omega
        have HP := Lib.hid (HS5.out.put hF hV hG hjb false)
        go_wp2_with fail
        go_ret
        refine ⟨rfl, .inr ⟨j, by omega, ?_, HP.out⟩⟩
        unfold brkAt
        rw [HA.out, List.getD_eq_getElem?_getD, Hr.out]
        simp [Hq.out]
      · go_wp2_with fail
        go_roundw
        case rel => exact ⟨j + 1, by go_num, by omega, all_take Hr.out HA.out Hq.out, HB5.out⟩
        case measure => simp [intOf]; omega
    · have hjn : j = f.rn := by omega
      subst hjn
      go_wp2_with fail
      go_ret
      refine ⟨rfl, .inl ⟨?_, HS.out⟩⟩
      rw [← HA.out, List.take_of_length_le (by omega)]
end Go.Proofs.Ytmfmpkihmadjmaa
