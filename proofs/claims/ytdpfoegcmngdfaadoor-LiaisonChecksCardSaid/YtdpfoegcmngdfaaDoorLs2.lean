/- Liaisons: the law's pairs. -/
import Derived.Test.YtdpfoegcmngdfaaDoorLs1
namespace Go.Proofs.YtdpfoegcmngdfaaDoor
open Go.RowKit
def OE (C : Nat) (w : World) (v : Value) (l : List (Nat × Nat)) : Prop := w.ownsRow C 75 2 v l.length (flat (cast l))
theorem ret_graph1 {fn : Func} {p : Tmp} (hf : fn.results = #[.cell p 24]) (tmps : Array Value) (w : World) (g : Nat) (x y : Value) (hp : tmps.getD p undef = .pointer (some ⟨g, 0, none⟩)) (h : Cells w g [x, y]) :
    (results fn tmps).run Tryd.prog w = .ok (.agg #[x, y]) w := by
  have hp' : tmps[p]?.getD undef = .pointer (some ⟨g, 0, none⟩) := by simpa using hp
  simp [results, hf, hp', asAddr, load_graph w g x y h]
theorem own_pairs {w : World} {base : Nat} {T : TypeId} {v : Value} {es : List (Int × Int)} (h : w.ownsRow base T 2 v es.length (flat es)) : ∃ A c, v = .slice A es.length c ∧ EL w A es.length es ∧ ∀ b o, A = some ⟨b, o, none⟩ → base ≤ b := by
  rcases h.2 with ⟨rfl, h0⟩ | ⟨g, cap, cur, rfl, hg, hh, hnc, hcm, hcs, hx⟩
  · have hl : es = [] := List.eq_nil_of_length_eq_zero h0
    subst hl
    exact ⟨none, 0, rfl, ⟨rfl, fun k n hk => by simp at hk⟩, fun b o h => by cases h⟩
  · refine ⟨_, cap, rfl, ⟨rfl, fun k e hk => ?_⟩, fun b o h => by cases h; exact hg⟩
    have hk2 : k < es.length := by
      rcases Nat.lt_or_ge k es.length with h1 | h1
      · exact h1
      · rw [List.getElem?_eq_none h1] at hk; cases hk
    obtain ⟨f1, f2⟩ := flat_at hk
    have e1 : ∀ j, j < es.length * 2 → cur.toList[j]? = (flat es)[j]? := fun j hj => by
      rw [← hx, List.getElem?_take_of_lt hj]
    refine ⟨g, 0, rfl, ?_, ?_, ?_⟩
    · rcases Nat.lt_or_ge g w.heap.size with h1 | h1
      · exact h1
      · rw [Array.getElem?_eq_none h1] at hh; cases hh
    · rw [cell_of_row _ _ _ _ _ _ hh, Nat.zero_add, ← f1, ← e1 _ (by omega)]; simp
    · rw [cell_of_row _ _ _ _ _ _ hh, Nat.zero_add, ← f2, ← e1 _ (by omega)]; simp
set_option maxRecDepth 100000 in
set_option maxHeartbeats 8000000 in
theorem pairs_any (x : Nat) (w : World) (hx : x < 65536) :
    Calls Tryd.prog 19 #[.int .u16 (x : Nat)] w fun e w' => ∃ B c, e = .returned (gV 6 B (makeL 6 (pU x 15)).length c) ∧ EL w' B (makeL 6 (pU x 15)).length (cast (makeL 6 (pU x 15))) ∧ Below w.heap.size w w' := by
  obtain ⟨j0, hj, jz0, jz1, jz2⟩ := info_parts info_edge
  have kv := (Below.refl w.heap.size w).alloc (Nat.le_refl _) (.cells #[.int .i64 0, .slice none 0 0] 24)
  have G0 := Lib.hid (Cells.new w #[.int .i64 0, .slice none 0 0] 24)
  have kv := Lib.hid kv
  go_enter Tryd.func19, Tryd.ntmps19
  go_wp2_with fail
  go_loopw [3, 4, 5, 6] (fun v k b _ wr => ∃ y : Nat, b = .int .i64 (y : Nat) ∧ k = .int .i64 (tri y : Nat) ∧ 1 ≤ y ∧ y ≤ 6 ∧ OE (w.heap.size + 1) wr v (pU x (tri y)) ∧ Below (w.heap.size + 1) (w.alloc (.cells #[.int .i64 0, .slice none 0 0] 24)) wr) (fun _ _ b _ _ => 6 - (intOf b).toNat)
  case atStart => exact ⟨1, rfl, rfl, by omega, by omega, World.ownsRow_nil _ _ _ _, Below.refl _ _⟩
  case round =>
    obtain ⟨y, rfl, rfl, h1y, hy, hown, hbw⟩ := hrel
    obtain ⟨wo, rfl⟩ : ∃ wo : World, wo = wr := ⟨_, rfl⟩
    have O6 := Lib.hid hown
    have B6 := Lib.hid hbw
    clear hown hbw
    by_cases hlt : y < 6
    · have Htu := Lib.hid (tri_up y hlt)
      have t9 : decide ((y : Int) < 6) = true := decide_eq_true (by omega)
      have hty : tri y ≤ 15 := by
        have : ∀ y, y < 6 → tri y ≤ 15 := by decide
        exact this y hlt
      obtain ⟨T, hT⟩ : ∃ T, tri y = T := ⟨_, rfl⟩
      have HT := Lib.hid hT
      rw [hT] at hty O6
      clear hT
      go_wp2_with fail
      go_loopw [3, 4, 6] (fun v k a wr => ∃ z : Nat, a = .int .i64 (z : Nat) ∧ k = .int .i64 ((T + z : Nat) : Int) ∧ z ≤ y ∧ OE (w.heap.size + 1) wr v (pU x (T + z)) ∧ Below (w.heap.size + 1) (w.alloc (.cells #[.int .i64 0, .slice none 0 0] 24)) wr) (fun _ _ a _ => y - (intOf a).toNat)
      case atStart => exact ⟨0, rfl, by rw [HT.out]; rfl, Nat.zero_le _, O6.out, B6.out⟩
      case round =>
        obtain ⟨a, rfl, rfl, ha, hown, hbw⟩ := hrel
        obtain ⟨wa, rfl⟩ : ∃ wa : World, wa = wr := ⟨_, rfl⟩
        have O7 := Lib.hid hown
        have B7 := Lib.hid hbw
        have hsz := hbw.size
        have hsz2 : w.heap.size + 1 ≤ wa.heap.size := by simpa using hsz
        clear hown hbw
        by_cases hla : a < y
        · have htri := tri_at y hlt a hla
          rw [HT.out] at htri
          have hup := pU_up (x := x) htri.1
          have hk15 := htri.2
          have t0 := bit_u16 (k := T + a) hx
          have Hpl := Lib.hid (pU_len x (T + a))
          clear htri
          cases ht : x.testBit (T + a) with
          | true =>
            rw [ht] at t0 hup
            rw [if_pos rfl] at hup
            have Hup := Lib.hid hup
            clear ht hup
            go_wp2_with (at_builtin; refine wpList_append_own _ rfl _ _ 22 rfl (w.heap.size + 1) 75 j0 (.agg #[.int .i64 0, .int .i64 0]) 2 16 Tryd.underlying22 hj jz0 jz1 jz2 rfl (by decide) _ _ _ rfl (O7.out.alloc _) ⟨wa.heap.size, 0, none⟩ 2 2 [.int .i64 (a : Nat), .int .i64 (y : Nat), .int .i64 (y : Nat), .int .i64 (a : Nat)] rfl rfl ?c1 ?c2 ?c3 ?c4 ?c5 ?_)
            case c1 =>
              intro k u hu
              match k, hu with
              | 0, hu => simp at hu; subst hu; simp [Addr.add]
              | 1, hu => simp at hu; subst hu; simp [Addr.add]
              | 2, hu => simp at hu; subst hu; simp [Addr.add]
              | 3, hu => simp at hu; subst hu; simp [Addr.add]
            case c2 => intro u hu; simp at hu; rcases hu with rfl | rfl | rfl | rfl <;> rfl
            case c3 => unfold maxLen; have := Hpl.out; omega
            case c4 => have := Hpl.out; omega
            case c5 => simp; omega
            intro v' w3 hown' hgrow _
            have B8 := Lib.hid ((B7.out.alloc hsz2 (.cells #[.int .i64 (a : Nat), .int .i64 (y : Nat), .int .i64 (y : Nat), .int .i64 (a : Nat)] 75)).grown hgrow (by simp; omega) (fun k hk => own_ge O7.out hk))
            have O8 := Lib.hid (show OE (w.heap.size + 1) w3 v' (pU x (T + (a + 1))) by
              unfold OE
              rw [show T + (a + 1) = T + a + 1 by omega, Hup.out, List.length_append, cast_app, flat_app]; exact hown')
            clear hown' hgrow
            go_wp2_with fail
            go_roundw
            case rel => exact ⟨a + 1, by go_num, by go_num, by omega, O8.out, B8.out⟩
            case measure => simp [intOf]; omega
          | false =>
            rw [ht] at t0 hup
            have O8 := Lib.hid (show OE (w.heap.size + 1) wa _ (pU x (T + (a + 1))) by
              rw [show T + (a + 1) = T + a + 1 by omega, hup, if_neg (by simp), List.append_nil]; exact O7.out)
            clear ht hup
            go_wp2_with fail
            go_roundw
            case rel => exact ⟨a + 1, by go_num, by go_num, by omega, O8.out, B7.out⟩
            case measure => simp [intOf]; omega
        · have hka : a = y := by omega
          subst hka
          go_wp2_with fail
          go_roundw
          case rel => exact ⟨a + 1, by go_num, by rw [Htu.out, HT.out], by omega, by omega, by rw [Htu.out, HT.out]; exact O7.out, B7.out⟩
          case measure => simp [intOf]; omega
    · have hk6 : y = 6 := by omega
      subst hk6
      have O9 := O6.out
      rw [show tri 6 = 15 by decide] at O9
      unfold OE at O9
      rw [← cast_len] at O9
      obtain ⟨A, c, rfl, hel, _⟩ := own_pairs O9
      rw [cast_len] at hel ⊢
      have hpl := pU_len x 15
      have HM := Lib.hid (make_ok 6 A (pU x 15).length c (pU x 15) wo hel (by omega) (pU_low x 15) (by omega))
      have G6 := Lib.hid (G0.out.keep (B6.out.mono (by simp)))
      clear O9 hel O6
      obtain ⟨n, hn⟩ : ∃ n, (pU x 15).length = n := ⟨_, rfl⟩
      rw [hn] at HM hpl ⊢
      clear hn
      go_wp2_with fail
      refine HM.out.mono ?_
      rintro e wm ⟨⟨B, d, rfl, hel2, hge⟩, hbm⟩
      have B8 := Lib.hid (B6.out.trans (hbm.mono (by simpa using B6.out.size)))
      have hwm : wo.heap.size ≤ wm.heap.size := hbm.size
      have hwo : w.heap.size + 1 ≤ wo.heap.size := by simpa using B6.out.size
      have al := (Below.refl wm.heap.size wm).alloc (Nat.le_refl _) (.cells #[.int .i64 6, .slice B (makeL 6 (pU x 15)).length d] 24)
      have X4 := Lib.hid ((G6.out.keep hbm).keep al)
      have x0 := X4.out.at_ 0
      have x1 := X4.out.at_ 1
      have f0 := X4.out.fz 0
      have f1 := X4.out.fz 1
      simp only [List.getElem?_cons_zero, List.getElem?_cons_succ] at x0 x1
      have X5 := Lib.hid ((X4.out.set 0 (.int .i64 6) (by simp)).set 1 (.slice B (makeL 6 (pU x 15)).length d) (by simp))
      have E5 : EL (((wm.alloc (.cells #[.int .i64 6, .slice B (makeL 6 (pU x 15)).length d] 24)).setCell ⟨w.heap.size, 0, none⟩ (.int .i64 6)).setCell ⟨w.heap.size, 1, none⟩ (.slice B (makeL 6 (pU x 15)).length d)) B (makeL 6 (pU x 15)).length (cast (makeL 6 (pU x 15))) := by
        by_cases h0 : makeL 6 (pU x 15) = []
        · rw [h0]
          exact ⟨rfl, fun k e hk => by simp [cast] at hk⟩
        · have HBn : ∀ b o, B = some ⟨b, o, none⟩ → b ≠ w.heap.size := fun b o hb hh => by
            rcases hge b o hb with h1 | h1
            · omega
            · exact h0 h1
          exact ((hel2.keep al).other HBn 0 _).other HBn 1 _
      have E5 := Lib.hid E5
      have B5 := Lib.hid (((kv.out.trans ((B8.out.alloc (by omega) (.cells #[.int .i64 6, .slice B (makeL 6 (pU x 15)).length d] 24)).mono (Nat.le_succ _))).setCell (p := ⟨w.heap.size, 0, none⟩) (by simp) (.int .i64 6)).setCell (p := ⟨w.heap.size, 1, none⟩) (by simp) (.slice B (makeL 6 (pU x 15)).length d))
      clear hel2 hbm hge al hwm hwo
      go_wp2_with fail
      exact bodyPost_ret (ret_graph1 rfl _ _ w.heap.size _ _ rfl X5.out) rfl ⟨B, d, rfl, E5.out, B5.out⟩
end Go.Proofs.YtdpfoegcmngdfaaDoor
