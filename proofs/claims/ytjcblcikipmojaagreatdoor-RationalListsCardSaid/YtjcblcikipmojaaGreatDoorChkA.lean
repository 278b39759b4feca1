/- Rationals: the errors of texts; the reference's Check and the program's parse. -/
import Derived.Test.YtjcblcikipmojaaGreatDoorRatQ
namespace Go.Proofs.YtjcblcikipmojaaGreatDoor
open Go.RowKit

def digs (s : ByteArray) : Bool := allDig s.data.toList && decide (0 < s.size)
/-- The error of a text's parts. -/
def errP (num den : ByteArray) (f : Bool) : Int :=
  if digs (bodyOf num) = false ∨ digs den = false then 14
  else if allZero den.data.toList = true then 19
  else if errOf num ≠ 0 ∨ lead0 den = true ∨ (f = true ∧ (zOf den = 1 ∨ Nat.gcd (zOf num).natAbs (zOf den).natAbs ≠ 1)) then 3 else 0
def numR (s : ByteArray) : ByteArray := s.extract 0 (slashAt s)
def denR (s : ByteArray) : ByteArray := if slashAt s < s.size then s.extract (slashAt s + 1) s.size else ⟨#[49]⟩
def fracR (s : ByteArray) : Bool := decide (slashAt s < s.size)
def errR (s : ByteArray) : Int := errP (numR s) (denR s) (fracR s)
theorem whole_extract (s : ByteArray) : s.extract 0 s.size = s := by
  apply ByteArray.ext
  simp
/-- A text and its parts. -/
def PartR (s num den : ByteArray) (f : Bool) : Prop := (f = false ∧ slashAt s = s.size ∧ num = s ∧ den = ⟨#[49]⟩) ∨ (f = true ∧ slashAt s < s.size ∧ s = num ++ ⟨#[47]⟩ ++ den)
theorem partR (s : ByteArray) : PartR s (numR s) (denR s) (fracR s) ∧ ∀ c ∈ (numR s).data.toList, c ≠ 47 := by
  refine ⟨?_, fun c hc => ?_⟩
  · unfold numR denR fracR
    have hle := slashAt_le s
    by_cases h : slashAt s < s.size
    · rw [if_pos h, decide_eq_true h]
      exact .inr ⟨rfl, h, slash_whole h⟩
    · have e : slashAt s = s.size := by omega
      rw [if_neg h, decide_eq_false h, e, whole_extract]
      exact .inl ⟨rfl, e, rfl, rfl⟩
  · have e2 : (numR s).data.toList = s.data.toList.take (slashAt s) := by unfold numR; simp [ByteArray.data_extract]
    rw [e2] at hc
    obtain ⟨i, hi, rfl⟩ := List.getElem_of_mem hc
    rw [List.length_take] at hi
    have := List.not_of_lt_findIdx (p := (· == 47)) (xs := s.data.toList) (i := i) (by unfold slashAt at hi; omega)
    rw [List.getElem_take]
    simpa using this
theorem errP_14 {num den : ByteArray} {f : Bool} (h : digs (bodyOf num) = false ∨ digs den = false) : (14 : Int) = errP num den f := by
  unfold errP
  rw [if_pos h]
theorem errP_19 {num den : ByteArray} {f : Bool} (h1 : digs (bodyOf num) = true) (h2 : digs den = true) (h3 : allZero den.data.toList = true) : (19 : Int) = errP num den f := by
  unfold errP
  rw [if_neg (by rw [h1, h2]; simp), if_pos h3]
theorem errP_3 {num den : ByteArray} {f : Bool} (h1 : digs (bodyOf num) = true) (h2 : digs den = true) (h3 : allZero den.data.toList = false) (h : errOf num ≠ 0 ∨ lead0 den = true ∨ (f = true ∧ (zOf den = 1 ∨ Nat.gcd (zOf num).natAbs (zOf den).natAbs ≠ 1))) : (3 : Int) = errP num den f := by
  unfold errP
  rw [if_neg (by rw [h1, h2]; simp), if_neg (by rw [h3]; simp), if_pos h]
theorem errP_0 {num den : ByteArray} {f : Bool} (h1 : digs (bodyOf num) = true) (h2 : digs den = true) (h3 : allZero den.data.toList = false) (h4 : errOf num = 0) (h5 : lead0 den = false) (h : f = false ∨ (zOf den ≠ 1 ∧ Nat.gcd (zOf num).natAbs (zOf den).natAbs = 1)) : (0 : Int) = errP num den f := by
  unfold errP
  rw [if_neg (by rw [h1, h2]; simp), if_neg (by rw [h3]; simp), if_neg]
  rintro (h6 | h6 | ⟨h6, h7⟩)
  · exact h6 h4
  · rw [h5] at h6; cases h6
  · rcases h with h | ⟨h8, h9⟩
    · rw [h] at h6; cases h6
    · exact h7.elim h8 (fun h => h h9)
/-- A leading zero. -/
theorem errOf_lead {num d : ByteArray} (hb : bodyOf num = d) (hd : digs d = true) (hl : lead0 d = true) (h : 1 < d.size ∨ 1 < num.size) : errOf num ≠ 0 := by
  obtain ⟨h1, h2⟩ := dig_true hd
  rw [(errOf_ways hb).2.2.1 h1 h2 hl h]
  decide
theorem refPartsE_any (s : ByteArray) (w : World) (hs : s.size ≤ 5000) :
    Calls Tryz.prog 34 #[.string s] w fun e w' => e = .returned (.tuple #[.string (numR s), .string (denR s)]) ∧ Below w.heap.size w w' := by
  have HS := Lib.hid (fun w => slashR_any s w (by omega))
  have hle := slashAt_le s
  unfold numR denR
  obtain ⟨k, hk⟩ : ∃ k, slashAt s = k := ⟨_, rfl⟩
  rw [hk] at HS hle ⊢
  clear hk
  by_cases h : k < s.size
  · rw [if_pos h]
    have hle1 : k + 1 ≤ s.size := h
    have hk5 : (k : Int) ≤ 5000 := by omega
    have hs5 : (s.size : Int) ≤ 5000 := by omega
    have t0 : ((k : Int) == (s.size : Int)) = false := by rw [beq_eq_false_iff_ne]; omega
    go_enter Tryz.func34, Tryz.ntmps34
    go_wp2_with fail
    refine (HS.out _).mono ?_
    rintro e w1 ⟨rfl, rfl⟩
    go_wp2_with fail
    go_region
    all_goals
      go_wp2
      go_ret2
      exact ⟨rfl, (Below.refl _ _).drew⟩
  · obtain rfl : k = s.size := by omega
    rw [if_neg (by omega), whole_extract]
    clear h
    go_enter Tryz.func34, Tryz.ntmps34
    go_wp2_with fail
    refine (HS.out _).mono ?_
    rintro e w1 ⟨rfl, rfl⟩
    go_wp2
    go_ret2
    exact ⟨rfl, Below.refl _ _⟩
def CheckE (s : ByteArray) (w : World) (e : Ending) (w' : World) : Prop := e = .returned (.int .i64 (errR s)) ∧ Below w.heap.size w w'
theorem CheckE.of {s num den : ByteArray} {f : Bool} {E : Int} {e : Ending} {w w' : World} (hR : errR s = errP num den f) (he : e = .returned (.int .i64 E)) (hE : E = errP num den f) (h : Below w.heap.size w w') : CheckE s w e w' := ⟨by rw [hR, ← hE]; exact he, h⟩
set_option maxRecDepth 100000 in
set_option maxHeartbeats 16000000 in
theorem refCheckE_any (s : ByteArray) (most : Nat) (w : World) (hs : s.size ≤ 200) (hm : s.size ≤ most) (_hm2 : most ≤ 1000000000) : Calls Tryz.prog 16 #[.string s, .int .i64 (most : Nat)] w (CheckE s w) := by
  have hmI : (s.size : Int) ≤ (most : Int) := by omega
  have HP := Lib.hid (fun w => refPartsE_any s w (by omega))
  have hways := (partR s).1
  have hR : errR s = errP (numR s) (denR s) (fracR s) := rfl
  obtain ⟨num, hnum⟩ : ∃ x, numR s = x := ⟨_, rfl⟩
  obtain ⟨den, hden⟩ : ∃ x, denR s = x := ⟨_, rfl⟩
  obtain ⟨f, hf⟩ : ∃ x, fracR s = x := ⟨_, rfl⟩
  rw [hnum, hden, hf] at hways hR
  rw [hnum, hden] at HP
  have HR := Lib.hid hR
  clear hnum hden hf hR
  have HSl := Lib.hid (fun w => slashR_any s w (by omega))
  go_enter Tryz.func16, Tryz.ntmps16
  go_wp2_with fail
  refine (HP.out _).mono ?_
  rintro e w1 ⟨rfl, h1⟩
  have K1 := Lib.hid h1
  have z1 : num.size ≤ 201 ∧ den.size ≤ 201 := by
    rcases hways with ⟨_, _, rfl, rfl⟩ | ⟨_, _, h⟩
    · exact ⟨by omega, by decide⟩
    · have h2 := congrArg ByteArray.size h
      rw [size_cat] at h2
      omega
  obtain ⟨zn, zd⟩ := z1
  clear h1
  obtain ⟨b2, hb2⟩ : ∃ b, digs den = b := ⟨_, rfl⟩
  have HD2 := Lib.hid (fun w => refDigitsR_any den w (by omega))
  rw [show (allDig den.data.toList && decide (0 < den.size)) = digs den from rfl, hb2] at HD2
  have Hb2 := Lib.hid hb2
  obtain ⟨b3, hb3⟩ : ∃ b, allZero den.data.toList = b := ⟨_, rfl⟩
  have HZ := Lib.hid (fun w => refZeros_any den w (by omega))
  rw [hb3] at HZ
  have Hb3 := Lib.hid hb3
  clear hb2 hb3
  rcases Nat.eq_zero_or_pos num.size with h0 | h0
  · obtain ⟨b1, hb1⟩ : ∃ b, digs num = b := ⟨_, rfl⟩
    have HD1 := Lib.hid (fun w => refDigitsR_any num w (by omega))
    rw [show (allDig num.data.toList && decide (0 < num.size)) = digs num from rfl] at HD1
    rw [hb1] at HD1
    obtain rfl : b1 = false := by rw [← hb1]; unfold digs; rw [h0]; simp
    have H14 := Lib.hid (show digs (bodyOf num) = false by unfold bodyOf; rw [isNeg_empty h0]; exact hb1)
    clear hb1
    go_wp2_with fail
    refine (HD1.out _).mono ?_
    rintro e w2 ⟨rfl, rfl⟩
    go_wp2
    go_ret
    exact CheckE.of HR.out rfl (errP_14 (.inl H14.out)) K1.out
  · obtain ⟨x, hx⟩ : ∃ x, (num[0]).toNat = x := ⟨_, rfl⟩
    have hneg := isNeg_of h0 hx
    by_cases h45 : x = 45
    · rw [decide_eq_true h45] at hneg
      have hb : bodyOf num = num.extract 1 num.size := by unfold bodyOf; rw [hneg]; rfl
      obtain ⟨d, hd⟩ : ∃ d, num.extract 1 num.size = d := ⟨_, rfl⟩
      rw [hd] at hb
      have hds : d.size ≤ 201 := by rw [← hd, tail_size]; omega
      have Hb := Lib.hid hb
      have h1s : (1 : Int) ≤ (num.size : Int) := by omega
      have hns : (num.size : Int) ≤ 201 := by omega
      subst h45
      obtain ⟨b1, hb1⟩ : ∃ b, digs d = b := ⟨_, rfl⟩
      have HD1 := Lib.hid (fun w => refDigitsR_any d w (by omega))
      rw [show (allDig d.data.toList && decide (0 < d.size)) = digs d from rfl] at HD1
      rw [hb1] at HD1
      have Hb1 := Lib.hid hb1
      clear hb1 hb hneg
      go_wp2_with fail
      refine (HD1.out _).mono ?_
      rintro e w2 ⟨rfl, rfl⟩
      cases b1 with
      | false =>
        go_wp2
        go_ret
        exact CheckE.of HR.out rfl (errP_14 (.inl (by rw [Hb.out]; exact Hb1.out))) K1.out
      | true =>
        go_wp2_with fail
        refine (HD2.out _).mono ?_
        rintro e w2 ⟨rfl, rfl⟩
        cases b2 with
        | false =>
          go_wp2
          go_ret
          exact CheckE.of HR.out rfl (errP_14 (.inr Hb2.out)) K1.out
        | true =>
          obtain ⟨ad, sd⟩ := dig_true Hb1.out
          obtain ⟨an, sn⟩ := dig_true Hb2.out
          have Ad := Lib.hid ad
          have An := Lib.hid an
          clear ad an
          go_wp2_with fail
          refine (HZ.out _).mono ?_
          rintro e w2 ⟨rfl, rfl⟩
          cases b3 with
          | true =>
            go_wp2
            go_ret
            exact CheckE.of HR.out rfl (errP_19 (by rw [Hb.out]; exact Hb1.out) Hb2.out Hb3.out) K1.out
          | false =>
            obtain ⟨y, hy⟩ : ∃ y, (d[0]).toNat = y := ⟨_, rfl⟩
            obtain ⟨u, hu⟩ : ∃ u, (den[0]).toNat = u := ⟨_, rfl⟩
            have Hl0 := Lib.hid (lead0_of sd hy)
            have Hu0 := Lib.hid (lead0_of sn hu)
            by_cases hlead : 1 < d.size ∧ y = 48
            · obtain ⟨hl1, rfl⟩ := hlead
              have H3 := Lib.hid (errP_3 (f := f) (by rw [Hb.out]; exact Hb1.out) Hb2.out Hb3.out (.inl (errOf_lead Hb.out Hb1.out Hl0.out (.inl hl1))))
              go_wp2
              go_ret
              exact CheckE.of HR.out rfl (H3.out) K1.out
            · have tl : (1 < d.size ∧ ((y : Int) == 48) = false) ∨ ¬ 1 < d.size := by
                rcases Nat.lt_or_ge 1 d.size with h1 | h1
                · exact .inl ⟨h1, by rw [beq_eq_false_iff_ne]; intro e; exact hlead ⟨h1, by omega⟩⟩
                · exact .inr (by omega)
              have Hgl := Lib.hid (show ¬ (1 < d.size ∧ lead0 d = true) from fun ⟨h1, h2⟩ => hlead ⟨h1, by rw [Hl0.out] at h2; exact of_decide_eq_true h2⟩)
              clear hlead
              by_cases hm : num = ⟨#[45, 48]⟩
              · have tm : (num.toList == [45, 48]) = true := by rw [hm]; decide +kernel
                have H3 := Lib.hid (errP_3 (f := f) (by rw [Hb.out]; exact Hb1.out) Hb2.out Hb3.out (.inl (by rw [hm]; decide +kernel)))
                clear hm
                rcases tl with ⟨tl1, tl2⟩ | tl1
                · go_wp2
                  go_ret
                  exact CheckE.of HR.out rfl (H3.out) K1.out
                · go_wp2
                  go_ret
                  exact CheckE.of HR.out rfl (H3.out) K1.out
              · have tm : (num.toList == [45, 48]) = false := by
                  rw [ByteArray.toList_eq, beq_eq_false_iff_ne]
                  intro e
                  exact hm (by apply ByteArray.ext; apply Array.toList_inj.1; rw [e])
                have Hm := Lib.hid hm
                clear hm
                have He := Lib.hid (num_good Hb.out Ad.out sd Hgl.out Hm.out)
                by_cases hu48 : u = 48
                · subst hu48
                  have H3 := Lib.hid (errP_3 (f := f) (by rw [Hb.out]; exact Hb1.out) Hb2.out Hb3.out (.inr (.inl Hu0.out)))
                  rcases tl with ⟨tl1, tl2⟩ | tl1
                  · go_wp2
                    go_ret
                    exact CheckE.of HR.out rfl (H3.out) K1.out
                  · go_wp2
                    go_ret
                    exact CheckE.of HR.out rfl (H3.out) K1.out
                · have tu : ((u : Int) == 48) = false := by rw [beq_eq_false_iff_ne]; omega
                  have Hul := Lib.hid (show lead0 den = false by rw [Hu0.out]; exact decide_eq_false hu48)
                  have Hd0 := Lib.hid (den_good An.out sn Hul.out)
                  clear hu48
                  rcases hways with ⟨rfl, hk, rfl, rfl⟩ | ⟨rfl, hk, hcat⟩
                  · have Hfin := Lib.hid (errP_0 (f := false) (by rw [Hb.out]; exact Hb1.out) Hb2.out Hb3.out He.out Hul.out (.inl rfl))
                    rw [hk] at HSl
                    clear hk
                    rcases tl with ⟨tl1, tl2⟩ | tl1
                    · go_wp2_with fail
                      refine (HSl.out _).mono ?_
                      rintro e w3 ⟨rfl, rfl⟩
                      go_wp2
                      go_ret
                      exact CheckE.of HR.out rfl (Hfin.out) K1.out
                    · go_wp2_with fail
                      refine (HSl.out _).mono ?_
                      rintro e w3 ⟨rfl, rfl⟩
                      go_wp2
                      go_ret
                      exact CheckE.of HR.out rfl (Hfin.out) K1.out
                  · have hkk : (slashAt s : Int) < (s.size : Int) := by omega
                    have Hcat := Lib.hid hcat
                    obtain ⟨kk, hkke⟩ : ∃ kk, slashAt s = kk := ⟨_, rfl⟩
                    rw [hkke] at HSl hkk
                    clear hk hcat hkke
                    by_cases hone : den = ⟨#[49]⟩
                    · have t1 : (den.toList == [49]) = true := by rw [hone]; decide +kernel
                      have H3 := Lib.hid (errP_3 (f := true) (by rw [Hb.out]; exact Hb1.out) Hb2.out Hb3.out (.inr (.inr ⟨rfl, .inl (by rw [hone]; decide +kernel)⟩)))
                      clear hone
                      rcases tl with ⟨tl1, tl2⟩ | tl1
                      · go_wp2_with fail
                        refine (HSl.out _).mono ?_
                        rintro e w3 ⟨rfl, rfl⟩
                        go_wp2
                        go_ret
                        exact CheckE.of HR.out rfl (H3.out) K1.out
                      · go_wp2_with fail
                        refine (HSl.out _).mono ?_
                        rintro e w3 ⟨rfl, rfl⟩
                        go_wp2
                        go_ret
                        exact CheckE.of HR.out rfl (H3.out) K1.out
                    · have t1 : (den.toList == [49]) = false := by
                        rw [ByteArray.toList_eq, beq_eq_false_iff_ne]
                        intro e
                        exact hone (by apply ByteArray.ext; apply Array.toList_inj.1; rw [e])
                      have en := txt_zOf He.out
                      have ed := txt_zOf Hd0.out.1
                      obtain ⟨z, hz⟩ : ∃ z, zOf num = z := ⟨_, rfl⟩
                      obtain ⟨dd, hdd⟩ : ∃ dd, zOf den = dd := ⟨_, rfl⟩
                      have hdp := Hd0.out.2
                      rw [hdd] at ed hdp
                      rw [hz] at en
                      have hd1 : 1 < dd := by
                        rcases Int.lt_or_eq_of_le (show (1 : Int) ≤ dd by omega) with h | h
                        · exact h
                        · exfalso
                          apply hone
                          rw [← ed, ← h]
                          exact txt_1
                      have HG := Lib.hid (fun w => refGcd_any z dd w (by rw [en]; omega) (by rw [ed]; omega))
                      rw [en, ed] at HG
                      have Hz := Lib.hid (show Tx num z from ⟨He.out, hz⟩)
                      have Hdd := Lib.hid (show Tx den dd from ⟨Hd0.out.1, hdd⟩)
                      obtain ⟨g, hg⟩ : ∃ g, Nat.gcd z.natAbs dd.natAbs = g := ⟨_, rfl⟩
                      rw [hg] at HG
                      by_cases hg1 : g = 1
                      · have Hfin := Lib.hid (errP_0 (f := true) (by rw [Hb.out]; exact Hb1.out) Hb2.out Hb3.out He.out Hul.out (.inr ⟨by rw [hdd]; omega, by rw [hz, hdd]; exact hg.trans hg1⟩))
                        subst hg1
                        rw [show txt ((1 : Nat) : Int) = ⟨#[49]⟩ from txt_1] at HG
                        clear hone en ed hz hdd hdp hg hd1
                        rcases tl with ⟨tl1, tl2⟩ | tl1
                        · go_wp2_with fail
                          refine (HSl.out _).mono ?_
                          rintro e w3 ⟨rfl, rfl⟩
                          go_wp2_with fail
                          refine (HG.out _).mono ?_
                          rintro e w4 ⟨rfl, h4⟩
                          have KG := Lib.hid (below_on K1.out h4)
                          clear h4
                          go_wp2
                          go_ret
                          exact CheckE.of HR.out rfl (Hfin.out) KG.out
                        · go_wp2_with fail
                          refine (HSl.out _).mono ?_
                          rintro e w3 ⟨rfl, rfl⟩
                          go_wp2_with fail
                          refine (HG.out _).mono ?_
                          rintro e w4 ⟨rfl, h4⟩
                          have KG := Lib.hid (below_on K1.out h4)
                          clear h4
                          go_wp2
                          go_ret
                          exact CheckE.of HR.out rfl (Hfin.out) KG.out
                      · have tg : ((txt (g : Int)).toList == [49]) = false := txt_not1 (by omega) (by omega)
                        have H3 := Lib.hid (errP_3 (f := true) (by rw [Hb.out]; exact Hb1.out) Hb2.out Hb3.out (.inr (.inr ⟨rfl, .inr (by rw [hz, hdd, hg]; exact hg1)⟩)))
                        obtain ⟨G, hG⟩ : ∃ G, txt (g : Int) = G := ⟨_, rfl⟩
                        rw [hG] at tg HG
                        clear hone en ed hz hdd hdp hg hd1 hg1 hG
                        rcases tl with ⟨tl1, tl2⟩ | tl1
                        · go_wp2_with fail
                          refine (HSl.out _).mono ?_
                          rintro e w3 ⟨rfl, rfl⟩
                          go_wp2_with fail
                          refine (HG.out _).mono ?_
                          rintro e w4 ⟨rfl, h4⟩
                          have KG := Lib.hid (below_on K1.out h4)
                          clear h4
                          go_wp2
                          go_ret
                          exact CheckE.of HR.out rfl (H3.out) KG.out
                        · go_wp2_with fail
                          refine (HSl.out _).mono ?_
                          rintro e w3 ⟨rfl, rfl⟩
                          go_wp2_with fail
                          refine (HG.out _).mono ?_
                          rintro e w4 ⟨rfl, h4⟩
                          have KG := Lib.hid (below_on K1.out h4)
                          clear h4
                          go_wp2
                          go_ret
                          exact CheckE.of HR.out rfl (H3.out) KG.out
    · rw [decide_eq_false h45] at hneg
      have Hb := Lib.hid (show bodyOf num = num by unfold bodyOf; rw [hneg]; rfl)
      have t45 : ((x : Int) == 45) = false := by rw [beq_eq_false_iff_ne]; omega
      obtain ⟨b1, hb1⟩ : ∃ b, digs num = b := ⟨_, rfl⟩
      have HD1 := Lib.hid (fun w => refDigitsR_any num w (by omega))
      rw [show (allDig num.data.toList && decide (0 < num.size)) = digs num from rfl] at HD1
      rw [hb1] at HD1
      have Hb1 := Lib.hid hb1
      clear hb1 hneg
      go_wp2_with fail
      refine (HD1.out _).mono ?_
      rintro e w2 ⟨rfl, rfl⟩
      cases b1 with
      | false =>
        go_wp2
        go_ret
        exact CheckE.of HR.out rfl (errP_14 (.inl (by rw [Hb.out]; exact Hb1.out))) K1.out
      | true =>
        go_wp2_with fail
        refine (HD2.out _).mono ?_
        rintro e w2 ⟨rfl, rfl⟩
        cases b2 with
        | false =>
          go_wp2
          go_ret
          exact CheckE.of HR.out rfl (errP_14 (.inr Hb2.out)) K1.out
        | true =>
          obtain ⟨ad, sd⟩ := dig_true Hb1.out
          obtain ⟨an, sn⟩ := dig_true Hb2.out
          have Ad := Lib.hid ad
          have An := Lib.hid an
          clear ad an
          go_wp2_with fail
          refine (HZ.out _).mono ?_
          rintro e w2 ⟨rfl, rfl⟩
          cases b3 with
          | true =>
            go_wp2
            go_ret
            exact CheckE.of HR.out rfl (errP_19 (by rw [Hb.out]; exact Hb1.out) Hb2.out Hb3.out) K1.out
          | false =>
            obtain ⟨y, hy⟩ : ∃ y, (num[0]).toNat = y := ⟨_, rfl⟩
            obtain rfl : y = x := hy.symm.trans hx
            obtain ⟨u, hu⟩ : ∃ u, (den[0]).toNat = u := ⟨_, rfl⟩
            have Hl0 := Lib.hid (lead0_of sd hy)
            have Hu0 := Lib.hid (lead0_of sn hu)
            by_cases hlead : 1 < num.size ∧ y = 48
            · obtain ⟨hl1, rfl⟩ := hlead
              have H3 := Lib.hid (errP_3 (f := f) (by rw [Hb.out]; exact Hb1.out) Hb2.out Hb3.out (.inl (errOf_lead Hb.out Hb1.out Hl0.out (.inl hl1))))
              go_wp2
              go_ret
              exact CheckE.of HR.out rfl (H3.out) K1.out
            · have tl : (1 < num.size ∧ ((y : Int) == 48) = false) ∨ ¬ 1 < num.size := by
                rcases Nat.lt_or_ge 1 num.size with h1 | h1
                · exact .inl ⟨h1, by rw [beq_eq_false_iff_ne]; intro e; exact hlead ⟨h1, by omega⟩⟩
                · exact .inr (by omega)
              have Hgl := Lib.hid (show ¬ (1 < num.size ∧ lead0 num = true) from fun ⟨h1, h2⟩ => hlead ⟨h1, by rw [Hl0.out] at h2; exact of_decide_eq_true h2⟩)
              clear hlead
              by_cases hm : num = ⟨#[45, 48]⟩
              · have tm : (num.toList == [45, 48]) = true := by rw [hm]; decide +kernel
                have H3 := Lib.hid (errP_3 (f := f) (by rw [Hb.out]; exact Hb1.out) Hb2.out Hb3.out (.inl (by rw [hm]; decide +kernel)))
                clear hm
                rcases tl with ⟨tl1, tl2⟩ | tl1
                · go_wp2
                  go_ret
                  exact CheckE.of HR.out rfl (H3.out) K1.out
                · go_wp2
                  go_ret
                  exact CheckE.of HR.out rfl (H3.out) K1.out
              · have tm : (num.toList == [45, 48]) = false := by
                  rw [ByteArray.toList_eq, beq_eq_false_iff_ne]
                  intro e
                  exact hm (by apply ByteArray.ext; apply Array.toList_inj.1; rw [e])
                have Hm := Lib.hid hm
                clear hm
                have He := Lib.hid (num_good Hb.out Ad.out sd Hgl.out Hm.out)
                by_cases hu48 : u = 48
                · subst hu48
                  have H3 := Lib.hid (errP_3 (f := f) (by rw [Hb.out]; exact Hb1.out) Hb2.out Hb3.out (.inr (.inl Hu0.out)))
                  rcases tl with ⟨tl1, tl2⟩ | tl1
                  · go_wp2
                    go_ret
                    exact CheckE.of HR.out rfl (H3.out) K1.out
                  · go_wp2
                    go_ret
                    exact CheckE.of HR.out rfl (H3.out) K1.out
                · have tu : ((u : Int) == 48) = false := by rw [beq_eq_false_iff_ne]; omega
                  have Hul := Lib.hid (show lead0 den = false by rw [Hu0.out]; exact decide_eq_false hu48)
                  have Hd0 := Lib.hid (den_good An.out sn Hul.out)
                  clear hu48
                  rcases hways with ⟨rfl, hk, rfl, rfl⟩ | ⟨rfl, hk, hcat⟩
                  · have Hfin := Lib.hid (errP_0 (f := false) (by rw [Hb.out]; exact Hb1.out) Hb2.out Hb3.out He.out Hul.out (.inl rfl))
                    rw [hk] at HSl
                    clear hk
                    rcases tl with ⟨tl1, tl2⟩ | tl1
                    · go_wp2_with fail
                      refine (HSl.out _).mono ?_
                      rintro e w3 ⟨rfl, rfl⟩
                      go_wp2
                      go_ret
                      exact CheckE.of HR.out rfl (Hfin.out) K1.out
                    · go_wp2_with fail
                      refine (HSl.out _).mono ?_
                      rintro e w3 ⟨rfl, rfl⟩
                      go_wp2
                      go_ret
                      exact CheckE.of HR.out rfl (Hfin.out) K1.out
                  · have hkk : (slashAt s : Int) < (s.size : Int) := by omega
                    have Hcat := Lib.hid hcat
                    obtain ⟨kk, hkke⟩ : ∃ kk, slashAt s = kk := ⟨_, rfl⟩
                    rw [hkke] at HSl hkk
                    clear hk hcat hkke
                    by_cases hone : den = ⟨#[49]⟩
                    · have t1 : (den.toList == [49]) = true := by rw [hone]; decide +kernel
                      have H3 := Lib.hid (errP_3 (f := true) (by rw [Hb.out]; exact Hb1.out) Hb2.out Hb3.out (.inr (.inr ⟨rfl, .inl (by rw [hone]; decide +kernel)⟩)))
                      clear hone
                      rcases tl with ⟨tl1, tl2⟩ | tl1
                      · go_wp2_with fail
                        refine (HSl.out _).mono ?_
                        rintro e w3 ⟨rfl, rfl⟩
                        go_wp2
                        go_ret
                        exact CheckE.of HR.out rfl (H3.out) K1.out
                      · go_wp2_with fail
                        refine (HSl.out _).mono ?_
                        rintro e w3 ⟨rfl, rfl⟩
                        go_wp2
                        go_ret
                        exact CheckE.of HR.out rfl (H3.out) K1.out
                    · have t1 : (den.toList == [49]) = false := by
                        rw [ByteArray.toList_eq, beq_eq_false_iff_ne]
                        intro e
                        exact hone (by apply ByteArray.ext; apply Array.toList_inj.1; rw [e])
                      have en := txt_zOf He.out
                      have ed := txt_zOf Hd0.out.1
                      obtain ⟨z, hz⟩ : ∃ z, zOf num = z := ⟨_, rfl⟩
                      obtain ⟨dd, hdd⟩ : ∃ dd, zOf den = dd := ⟨_, rfl⟩
                      have hdp := Hd0.out.2
                      rw [hdd] at ed hdp
                      rw [hz] at en
                      have hd1 : 1 < dd := by
                        rcases Int.lt_or_eq_of_le (show (1 : Int) ≤ dd by omega) with h | h
                        · exact h
                        · exfalso
                          apply hone
                          rw [← ed, ← h]
                          exact txt_1
                      have HG := Lib.hid (fun w => refGcd_any z dd w (by rw [en]; omega) (by rw [ed]; omega))
                      rw [en, ed] at HG
                      have Hz := Lib.hid (show Tx num z from ⟨He.out, hz⟩)
                      have Hdd := Lib.hid (show Tx den dd from ⟨Hd0.out.1, hdd⟩)
                      obtain ⟨g, hg⟩ : ∃ g, Nat.gcd z.natAbs dd.natAbs = g := ⟨_, rfl⟩
                      rw [hg] at HG
                      by_cases hg1 : g = 1
                      · have Hfin := Lib.hid (errP_0 (f := true) (by rw [Hb.out]; exact Hb1.out) Hb2.out Hb3.out He.out Hul.out (.inr ⟨by rw [hdd]; omega, by rw [hz, hdd]; exact hg.trans hg1⟩))
                        subst hg1
                        rw [show txt ((1 : Nat) : Int) = ⟨#[49]⟩ from txt_1] at HG
                        clear hone en ed hz hdd hdp hg hd1
                        rcases tl with ⟨tl1, tl2⟩ | tl1
                        · go_wp2_with fail
                          refine (HSl.out _).mono ?_
                          rintro e w3 ⟨rfl, rfl⟩
                          go_wp2_with fail
                          refine (HG.out _).mono ?_
                          rintro e w4 ⟨rfl, h4⟩
                          have KG := Lib.hid (below_on K1.out h4)
                          clear h4
                          go_wp2
                          go_ret
                          exact CheckE.of HR.out rfl (Hfin.out) KG.out
                        · go_wp2_with fail
                          refine (HSl.out _).mono ?_
                          rintro e w3 ⟨rfl, rfl⟩
                          go_wp2_with fail
                          refine (HG.out _).mono ?_
                          rintro e w4 ⟨rfl, h4⟩
                          have KG := Lib.hid (below_on K1.out h4)
                          clear h4
                          go_wp2
                          go_ret
                          exact CheckE.of HR.out rfl (Hfin.out) KG.out
                      · have tg : ((txt (g : Int)).toList == [49]) = false := txt_not1 (by omega) (by omega)
                        have H3 := Lib.hid (errP_3 (f := true) (by rw [Hb.out]; exact Hb1.out) Hb2.out Hb3.out (.inr (.inr ⟨rfl, .inr (by rw [hz, hdd, hg]; exact hg1)⟩)))
                        obtain ⟨G, hG⟩ : ∃ G, txt (g : Int) = G := ⟨_, rfl⟩
                        rw [hG] at tg HG
                        clear hone en ed hz hdd hdp hg hd1 hg1 hG
                        rcases tl with ⟨tl1, tl2⟩ | tl1
                        · go_wp2_with fail
                          refine (HSl.out _).mono ?_
                          rintro e w3 ⟨rfl, rfl⟩
                          go_wp2_with fail
                          refine (HG.out _).mono ?_
                          rintro e w4 ⟨rfl, h4⟩
                          have KG := Lib.hid (below_on K1.out h4)
                          clear h4
                          go_wp2
                          go_ret
                          exact CheckE.of HR.out rfl (H3.out) KG.out
                        · go_wp2_with fail
                          refine (HSl.out _).mono ?_
                          rintro e w3 ⟨rfl, rfl⟩
                          go_wp2_with fail
                          refine (HG.out _).mono ?_
                          rintro e w4 ⟨rfl, h4⟩
                          have KG := Lib.hid (below_on K1.out h4)
                          clear h4
                          go_wp2
                          go_ret
                          exact CheckE.of HR.out rfl (H3.out) KG.out
end Go.Proofs.YtjcblcikipmojaaGreatDoor
