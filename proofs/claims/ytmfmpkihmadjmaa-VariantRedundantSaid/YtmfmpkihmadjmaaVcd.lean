/- Redundant: the rules that follow. -/
import Derived.Test.YtmfmpkihmadjmaaVcc
namespace Go.Proofs.Ytmfmpkihmadjmaa
open Go.RowKit Go.Shelf
set_option maxRecDepth 100000 in
set_option maxHeartbeats 4000000 in
theorem eachR_any (n : Nat) (hn : n ≤ 12) (p1 p2 : Nat) (W : World) (Inv Stop : Nat → World → Prop)
    (hV : ∀ k, k < 2 ^ n → ∀ W1, Inv k W1 → Calls Try.prog 60 #[.int .u64 (cfg n k : Nat), .pointer (some ⟨p1, 0, none⟩), .pointer (some ⟨p2, 0, none⟩)] W1 fun e W2 => (e = .returned (.bool true) ∧ Inv (k + 1) W2) ∨ (e = .returned (.bool false) ∧ Stop k W2)) (h0 : Inv 0 W) :
    Calls Try.prog 59 #[.int .i64 (n : Nat), .func (.func 60) #[] #[.pointer (some ⟨p1, 0, none⟩), .pointer (some ⟨p2, 0, none⟩)]] W fun e W' => (∃ v, e = .returned v) ∧ (Inv (2 ^ n) W' ∨ ∃ k, k < 2 ^ n ∧ Stop k W') := by
  have hb := sing_wrap (n := 12 - n) (by omega)
  have e1 : IntKind.i64.wrap ((12 : Int) - (n : Int)) = ((12 - n : Nat) : Int) := by rw [show (12 : Int) - (n : Int) = ((12 - n : Nat) : Int) by omega]; exact IntWalk.i64_in _ (by omega)
  have e2 : (12 : Int) - (n : Int) = ((12 - n : Nat) : Int) := by omega
  have i0 : ¬ ((12 - n : Nat) : Int) < 0 := by omega
  have HC := Lib.hid (fun k (hk : k < 2 ^ n) => cfg_step n k hn hk)
  have H0 := Lib.hid (cfg_zero n hn)
  have HE := Lib.hid (cfg_end n hn)
  obtain ⟨m, hm⟩ : ∃ m, 12 - n = m := ⟨_, rfl⟩
  obtain ⟨N, hN⟩ : ∃ N, 2 ^ n = N := ⟨_, rfl⟩
  rw [hm] at hb e1 e2 i0 HC
  rw [hN] at HC HE hV
  rw [hN]
  have hmn : m < 64 := by omega
  have HV := Lib.hid hV
  have J0 := Lib.hid h0
  obtain ⟨st, hst⟩ : ∃ st, sing m = st := ⟨_, rfl⟩
  rw [hst] at hb HC
  clear hV h0 hm hN hst
  go_enter Try.func59, Try.ntmps59
  go_wp2_with fail
  try rw [hb]
  go_loopw [5] (fun c wr => ∃ k : Nat, c = .int .u64 (cfgH n k : Nat) ∧ k ≤ N ∧ Inv k wr) (fun c _ => (intOf c).toNat)
  case atStart => exact ⟨0, by rw [H0.out]; rfl, Nat.zero_le _, J0.out⟩
  case round =>
    obtain ⟨k, rfl, hk, hi⟩ := hrel
    have Hi := Lib.hid hi
    clear hi
    by_cases hlt : k < N
    · obtain ⟨hpos, hsub, hlt2, hc64⟩ := HC.out k hlt
      have HVk := HV.out k hlt wr Hi.out
      have Hk := Lib.hid hlt
      obtain ⟨c0, hc0⟩ : ∃ c0, cfgH n k = c0 := ⟨_, rfl⟩
      obtain ⟨c1, hc1⟩ : ∃ c1, cfgH n (k + 1) = c1 := ⟨_, rfl⟩
      rw [hc0] at hpos hsub hlt2 hc64 ⊢
      rw [hc1] at hlt2
      have hcc : cfg n k = c1 := by rw [← hc1]; exact cfg_head n k
      rw [hcc] at HVk hsub
      have t0 : decide ((0 : Int) < (c0 : Int)) = true := decide_eq_true (by omega)
      have e3 : (c0 : Int) - (st : Int) = (c1 : Int) := by omega
      have e4 : IntKind.u64.wrap ((c1 : Nat) : Int) = ((c1 : Nat) : Int) := by rw [IntKind.wrap_u64]; omega
      have HVk := Lib.hid HVk
      have Hc1 := Lib.hid hc1
      have Hl := Lib.hid hlt2
      clear hc0 hc1 hcc hpos hsub hc64 hlt hk
      go_wp2_with fail
      refine HVk.out.mono ?_
      rintro e w1 (⟨rfl, hi⟩ | ⟨rfl, hs⟩)
      · go_wp2_with fail
        go_roundw
        case rel => exact ⟨k + 1, by rw [Hc1.out], Hk.out, hi⟩
        case measure => simp [intOf]; have := Hl.out; omega
      · go_wp2_with fail
        refine bodyPost_ret (results_none rfl _ _ _) rfl ?_
        exact ⟨⟨_, rfl⟩, .inr ⟨k, Hk.out, hs⟩⟩
    · have hkN : k = N := by omega
      subst hkN
      have hz := HE.out
      rw [hz]
      go_wp2_with fail
      go_end0
      exact ⟨⟨_, rfl⟩, .inl Hi.out⟩
set_option maxRecDepth 100000 in
set_option maxHeartbeats 8000000 in
theorem redundant_ok (f : Fm) (os : List ByteArray) (rs : List Ru) (gs : List (Nat × List (Nat × Bool))) (vs : List Ov) (ds : List Dm) (w : World) (h : FamOK w f os rs gs vs ds) :
    Calls Try.prog 35 #[f.v] w fun e w' => ∃ v, e = .returned (.tuple #[v, .int .i64 0]) ∧ w'.ownsRow w.heap.size 3 1 v (redU f.n rs f.rn).length (natsV (redU f.n rs f.rn)) ∧ Below w.heap.size w w' := by
  have k1 := (Below.refl w.heap.size w).alloc (Nat.le_refl _) (.cells f.cells 40)
  have P1 := Lib.hid (Cells.new w f.cells 40)
  have H1 := h.keep k1
  have HC := check_ok f os rs gs vs ds _ H1
  have s1 : (w.alloc (.cells f.cells 40)).heap.size = w.heap.size + 1 := by simp
  obtain ⟨w1, hw1⟩ : ∃ u, w.alloc (.cells f.cells 40) = u := ⟨_, rfl⟩
  have hw1' : w.alloc (.cells #[.string f.nm, .slice f.PA f.pn f.pc, .slice f.IA f.iN f.ic, .slice f.DA f.dn f.dc, .slice f.KA f.kn f.kc, .slice f.QA f.qn f.qc, .slice f.OA f.n f.oc, .slice f.RA f.rn f.rc, .slice f.GA f.gn f.gc, .slice f.VA f.vn f.vc] 40) = w1 := hw1
  rw [hw1] at k1 P1 H1 HC s1
  have hlow : LowR rs := fun r hr => by
    obtain ⟨_, h2, h3⟩ := h.rsn r hr
    exact ⟨fun l hl => by have := chE_low h3 l hl; have := h.n12; omega, by omega⟩
  have Hlow := Lib.hid hlow
  have HR := Lib.hid h.rsL
  have Hrl := Lib.hid h.rsl
  have hr48 := h.r48
  have hn12 := h.n12
  have HC := Lib.hid HC
  have K1 := Lib.hid k1
  have S1 := Lib.hid s1
  clear k1 H1 hlow h s1
  go_enter Try.func35, Try.ntmps35
  have c0 := P1.out.at_ 0
  have c1 := P1.out.at_ 1
  have c2 := P1.out.at_ 2
  have c3 := P1.out.at_ 3
  have c4 := P1.out.at_ 4
  have c5 := P1.out.at_ 5
  have c6 := P1.out.at_ 6
  have c7 := P1.out.at_ 7
  have c8 := P1.out.at_ 8
  have c9 := P1.out.at_ 9
  simp only [List.getElem?_cons_zero, List.getElem?_cons_succ] at c0 c1 c2 c3 c4 c5 c6 c7 c8 c9
  go_wp2_with fail
  refine HC.out.mono ?_
  rintro e w2 ⟨rfl, hb2⟩
  have B2 := Lib.hid (below_on K1.out hb2)
  have P2 := Lib.hid (P1.out.keep hb2)
  have Z2 := Lib.hid (show w.heap.size < w2.heap.size by have := hb2.size; have := S1.out; omega)
  clear hb2 c0 c1 c2 c3 c4 c5 c6 c7 c8 c9 hw1 hw1'
  have c7 := P2.out.at_ 7
  simp only [List.getElem?_cons_zero, List.getElem?_cons_succ] at c7
  have kA := (Below.refl w2.heap.size w2).alloc (Nat.le_refl _) (.cells #[.bool true] 4)
  have CA := Cells.new w2 #[.bool true] 4
  have ZA : w2.heap.size < (w2.alloc (.cells #[.bool true] 4)).heap.size := by simp
  have HRp := repeat_any w2.heap.size f.rn hr48 _ CA
  obtain ⟨wA, hwA⟩ : ∃ u, w2.alloc (.cells #[.bool true] 4) = u := ⟨_, rfl⟩
  rw [hwA] at kA ZA HRp
  have c7A := (P2.out.keep kA).at_ 7
  simp only [List.getElem?_cons_zero, List.getElem?_cons_succ] at c7A
  have BA := Lib.hid (below_on B2.out kA)
  have PA := Lib.hid (P2.out.keep kA)
  have HRp := Lib.hid HRp
  have ZA := Lib.hid ZA
  clear kA CA
  go_wp2_with fail
  refine HRp.out.mono ?_
  rintro e wB ⟨G, rfl, hG, hGz, hbB⟩
  have BB := Lib.hid (below_on BA.out hbB)
  have PB := Lib.hid (PA.out.keep hbB)
  have HG := Lib.hid hG
  have ZG := Lib.hid (show w2.heap.size < G from Nat.lt_of_lt_of_le ZA.out hGz)
  have kV := (Below.refl wB.heap.size wB).alloc (Nat.le_refl _) (.cells #[.slice (some ⟨G, 0, none⟩) f.rn f.rn] 49)
  have CV := Cells.new wB #[.slice (some ⟨G, 0, none⟩) f.rn f.rn] 49
  obtain ⟨wV, hwV⟩ : ∃ u, wB.alloc (.cells #[.slice (some ⟨G, 0, none⟩) f.rn f.rn] 49) = u := ⟨_, rfl⟩
  rw [hwV] at kV CV
  have hGB : G < wB.heap.size := hG.lt
  have hS0 : RS w wV w.heap.size wB.heap.size G f.cells.toList (folL f.n rs 0) :=
    ⟨below_on BB.out kV, PB.out.keep kV, by rw [folL_len, Hrl.out]; exact CV, by rw [folL_zero, List.map_replicate, Hrl.out]; exact hG.keep kV⟩
  have h0 := Z2.out
  have h1 := ZG.out
  have HEa := eachR_any f.n hn12 w.heap.size wB.heap.size wV (fun k W => RS w W w.heap.size wB.heap.size G f.cells.toList (folL f.n rs k)) (fun _ _ => False) (fun k hk W1 hI => by
    refine (red1_any (cfg f.n k) w.heap.size wB.heap.size G f rs _ w W1 (cfg_lt f.n k hn12) hI (by omega) (by omega) (by omega) HR.out Hrl.out hr48 (folL_len _ _ _) Hlow.out).mono ?_
    rintro e W2 ⟨rfl, h | ⟨i, hi, hbr, h⟩⟩
    · exact .inl ⟨rfl, by rw [folL_none h.1]; exact h.2⟩
    · exact .inl ⟨rfl, by rw [folL_set hi hbr]; exact h⟩) hS0
  have HEa := Lib.hid HEa
  have c6 := (PB.out.keep kV).at_ 6
  simp only [List.getElem?_cons_zero, List.getElem?_cons_succ] at c6
  clear hG hGz hbB kV CV hGB hS0 h0 h1 c7 c7A hwA
  go_wp2_with fail
  refine HEa.out.mono ?_
  rintro e wD ⟨⟨v0, rfl⟩, hI⟩
  have HS : RS w wD w.heap.size wB.heap.size G f.cells.toList (folL f.n rs (2 ^ f.n)) := by
    rcases hI with h | ⟨k, hk, h⟩
    · exact h
    · exact h.elim
  have HS := Lib.hid HS
  clear hI HEa c6 hwV
  have v0 := HS.out.kV.at_ 0
  simp only [List.getElem?_cons_zero, folL_len, Hrl.out] at v0
  have Hrn := Lib.hid hr48
  obtain ⟨i0, hi, hz0, hz1, hz2⟩ := info_parts info_intV
  go_wp2_with fail
  go_loopw [6, 7, 8, 26] (fun v _ _ i wr => ∃ j : Nat, i = .int .i64 (j : Nat) ∧ j ≤ f.rn ∧ wr.ownsRow wD.heap.size 3 1 v (redU f.n rs j).length (natsV (redU f.n rs j)) ∧ Below wD.heap.size wD wr) (fun _ _ _ i _ => f.rn - (intOf i).toNat)
  case atStart => exact ⟨0, rfl, Nat.zero_le _, World.ownsRow_nil _ _ _ _, Below.refl _ _⟩
  case round =>
    obtain ⟨j, rfl, hj, hown, hb⟩ := hrel
    have Ow := Lib.hid hown
    have Bp := Lib.hid hb
    have HSr := Lib.hid (HS.out.keep hb)
    have hsz := hb.size
    clear hown hb
    by_cases hlt : j < f.rn
    · have i1 : (j : Int) < (f.rn : Int) := by omega
      have Hlt := Lib.hid hlt
      have y0 := HSr.out.kG.at_ j
      rw [List.getElem?_map, folL_at (by rw [Hrl.out]; exact hlt)] at y0
      simp only [Option.map_some] at y0
      have hlen := redU_len f.n rs j
      have HY := @redU_yes f.n j rs
      have HN := @redU_no f.n j rs
      obtain ⟨q, hq⟩ : ∃ q, folB f.n rs (2 ^ f.n) j = q := ⟨_, rfl⟩
      rw [hq] at y0 HY HN
      have HY := Lib.hid HY
      have HN := Lib.hid HN
      have Hlen := Lib.hid hlen
      clear hq hlen
      cases q
      · go_wp2_with fail
        go_roundw
        case rel => exact ⟨j + 1, by go_num, Hlt.out, by rw [HN.out (by first | rfl | trivial)]; exact Ow.out, Bp.out⟩
        case measure => simp [intOf]; have := Hlt.out; omega
      · go_wp2_with (at_builtin; refine wpList_append_own _ rfl _ _ 51 rfl wD.heap.size 3 i0 (.int .i64 0) 1 8 Try.underlying51 hi hz0 hz1 hz2 rfl (by decide) _ _ _ rfl (Ow.out.alloc _) ⟨wr.heap.size, 0, none⟩ 1 1 [.int .i64 (j : Nat)] rfl rfl ?c1 ?c2 ?c3 ?c4 ?c5 ?_)
        case c2 => first | rfl | (intro u hu; simp at hu; subst hu; rfl)
        try any_goals first | exact cell_one_new _ _ _ | rfl
        case c3 => unfold maxLen; have := Hlen.out; have := Hrn.out; omega
        case c4 => have := Hlen.out; have := Hrn.out; omega
        case c5 => first | omega | (simp; omega)
        intro v' w5 hown' hgrow _
        have O6 := Lib.hid (show w5.ownsRow wD.heap.size 3 1 v' (redU f.n rs (j + 1)).length (natsV (redU f.n rs (j + 1))) by
          rw [HY.out (by first | rfl | trivial), natsV_snoc, List.length_append]
          exact hown')
        have B6 := Lib.hid ((Bp.out.alloc Bp.out.size (.cells #[.int .i64 (j : Nat)] 3)).grown hgrow (by simp; omega) (fun k hk => own_ge Ow.out hk))
        clear hown' hgrow
        go_wp2
        go_roundw
        case rel => exact ⟨j + 1, by go_num, Hlt.out, O6.out, B6.out⟩
        case measure => simp [intOf]; have := Hlt.out; omega
    · have hjn : j = f.rn := by omega
      subst hjn
      have OF := Lib.hid (own_down Ow.out HS.out.low.size)
      have BF := Lib.hid (below_on HS.out.low Bp.out)
      go_wp2_with fail
      go_ret2
      exact ⟨_, rfl, OF.out, BF.out⟩
end Go.Proofs.Ytmfmpkihmadjmaa
