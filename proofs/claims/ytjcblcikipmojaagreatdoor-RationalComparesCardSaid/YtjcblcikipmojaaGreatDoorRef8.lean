/- The reference's Mul: its walk. -/
import Derived.Test.YtjcblcikipmojaaGreatDoorRef7
namespace Go.Proofs.YtjcblcikipmojaaGreatDoor
open Go.RowKit

def OuterInv (w0 : World) (g N : Nat) (xs ys : List Int) (vi : Value) (wr : World) : Prop :=
  ∃ (P : List Int) (i : Nat), vi = .int .i64 (i : Nat) ∧ i ≤ xs.length ∧ P.length = N ∧ Dig P ∧ dval P = dval (xs.take i) * dval ys ∧ IBlk wr g P ∧ Below w0.heap.size w0 wr
set_option maxRecDepth 100000 in
set_option maxHeartbeats 8000000 in
theorem refMul_any (z k : Int) (w : World) (hs : (txt z).size ≤ 5000) (ht : (txt k).size ≤ 5000) :
    Calls Tryz.prog 87 #[.string (txt z), .string (txt k)] w fun e w' => e = .returned (.string (txt (z * k))) ∧ Below w.heap.size w w' := by
  obtain ⟨i0, hi, hz0, hz1, hz2⟩ := info_parts info_int
  have Hsz := Lib.hid (fun w => refSign_any z w hs)
  have Hsk := Lib.hid (fun w => refSign_any k w ht)
  have Hdz := Lib.hid (fun w => refDigits_at z w hs)
  have Hdk := Lib.hid (fun w => refDigits_at k w ht)
  obtain ⟨R, hR⟩ : ∃ R, txt (z * k) = R := ⟨_, rfl⟩
  have HR := Lib.hid hR
  obtain ⟨S, hS⟩ : ∃ S, txt z = S := ⟨_, rfl⟩
  obtain ⟨T, hT⟩ : ∃ T, txt k = T := ⟨_, rfl⟩
  rw [hS] at Hsz Hdz hs ⊢
  rw [hT] at Hsk Hdk ht ⊢
  rw [hR]
  clear hS hT hR
  go_enter Tryz.func87, Tryz.ntmps87
  go_wp2_with fail
  refine (Hdz.out _).mono ?_
  rintro e w1 ⟨A, n, c, rfl, hd1, hn1, h1⟩
  have K1 := Lib.hid h1
  have D1 := Lib.hid hd1
  clear h1 hd1
  go_wp2_with fail
  refine (Hdk.out _).mono ?_
  rintro e w2 ⟨A', n', c', rfl, hd2, hn2, h2⟩
  have K2 := Lib.hid (h2.mono (by have := K1.out.size; exact this) |> K1.out.trans)
  have D2 := Lib.hid hd2
  have D3 := Lib.hid (D1.out.keep h2)
  have hcl := D3.out.isl.2.1
  have hcl' := hd2.isl.2.1
  clear h2 hd2
  have hk2 := K2.out.size
  go_wp2_with (at_make; refine wpList_make_full _ rfl _ _ 85 rfl w2.heap.size 3 i0 (.int .i64 0) 1 Tryz.underlying85 hi hz0 hz1 _ _ _ _ (n + n' + 1) rfl rfl (by simp) (by simp) (by rw [hz2]; omega) (by unfold maxLen; omega) (Nat.le_refl _) ?_)
  intro w3 hown hgrow
  have hblk := made_iblk hown (by omega)
  have b3 := (Below.refl w2.heap.size w2).grown hgrow (Nat.le_refl _) (by simp)
  have Hblk := Lib.hid hblk
  have B3 := Lib.hid b3
  have HX := Lib.hid (D3.out.ds (by omega))
  have HY := Lib.hid (D2.out.ds (by omega))
  clear hown hgrow hblk b3
  go_wp2_with fail
  go_loopw [8] (fun vi wr => OuterInv w2 w2.heap.size (n + n' + 1) (digN z.natAbs) (digN k.natAbs) vi wr) (fun vi _ => n - (intOf vi).toNat)
  case atStart => exact ⟨List.replicate (n + n' + 1) 0, 0, rfl, Nat.zero_le _, by simp, dig_zeros _, by rw [dval_zeros]; simp [dval], Hblk.out, B3.out⟩
  case round =>
    obtain ⟨P, i, rfl, hin, hP, hPd, hPv, hPb, hbel⟩ := hrel
    have hxs := HX.out.size
    have hys := HY.out.size
    have HP := Lib.hid hP
    have HPd := Lib.hid hPd
    have HPv := Lib.hid hPv
    have HPb := Lib.hid hPb
    have Hbel := Lib.hid hbel
    have hin2 : i ≤ n := by omega
    clear hP hPd hPv hPb hbel hin
    by_cases hi2 : i < n
    · obtain ⟨x, hx⟩ : ∃ x, (digN z.natAbs).getD i 0 = x := ⟨_, rfl⟩
      have hx0 := (getD_dig HX.out.dig i).1
      have hx9 := (getD_dig HX.out.dig i).2
      rw [hx] at hx0 hx9
      obtain ⟨b1, o1, rfl, hb1, hc1⟩ := HX.out.cell hi2
      rw [hx] at hc1
      have Hc1 := Lib.hid hc1
      have Hx := Lib.hid hx
      have Hxs := Lib.hid hxs
      have Hys := Lib.hid hys
      clear hc1 hx hxs hys
      go_wp2_with fail
      go_loopw [9, 10] (fun vc vk wr => InnerInv w2 w2.heap.size (n + n' + 1) i (digN z.natAbs) (digN k.natAbs) x vc vk wr) (fun _ vk _ => n + n' + 2 - (intOf vk).toNat)
      case atStart => exact ⟨P, 0, 0, rfl, rfl, by decide, by decide, Nat.zero_le _, HP.out, HPd.out, by simpa [dval] using HPv.out, HPb.out, Hbel.out⟩
      case round =>
        obtain ⟨P, cc, j, rfl, rfl, hc0, hc9, hjN, hP, hPd, hPv, hPb, hbel⟩ := hrel
        have HP := Lib.hid hP
        have HPd := Lib.hid hPd
        have HPv := Lib.hid hPv
        have HPb := Lib.hid hPb
        have Hbel := Lib.hid hbel
        have cx := (hbel.cell (p := ⟨b1, o1 + i, none⟩) hb1).trans Hc1.out
        obtain ⟨y, hy⟩ : ∃ y, (digN k.natAbs).getD j 0 = y := ⟨_, rfl⟩
        have hy0 := (getD_dig HY.out.dig j).1
        have hy9 := (getD_dig HY.out.dig j).2
        rw [hy] at hy0 hy9
        have Hy := Lib.hid hy
        obtain ⟨p, hp⟩ : ∃ p, P.getD (i + j) 0 = p := ⟨_, rfl⟩
        have hp0 := (getD_dig hPd (i + j)).1
        have hp9 := (getD_dig hPd (i + j)).2
        rw [hp] at hp0 hp9
        have Hp := Lib.hid hp
        have hfz := hPb.frozen (i + j)
        have hcell : i + j < n + n' + 1 → wr.cell? ⟨w2.heap.size, i + j, none⟩ = some (.int .i64 p) := fun h => by rw [← hp]; exact hPb.cell (by rw [hP]; exact h)
        have Hcell := Lib.hid hcell
        clear hP hPd hPv hPb hbel hy hp hcell
        by_cases hj : j < n'
        · have hij : i + j < n + n' + 1 := by omega
          have cp := Hcell.out hij
          obtain ⟨b2, o2, rfl, hb2, hc2⟩ := HY.out.cell hj
          have cy := (Hbel.out.cell (p := ⟨b2, o2 + j, none⟩) hb2).trans hc2
          rw [Hy.out] at cy
          have hxy0 : 0 ≤ x * y := Int.mul_nonneg hx0 hy0
          have hxy9 : x * y ≤ 81 := by have := Int.mul_le_mul hx9 hy9 hy0 (by omega); omega
          have Hfin := fun m => Lib.hid (inner_step (m := m) (Nat.le_refl w2.heap.size) Hp.out Hy.out hx0 hx9 hy0 hy9 hc0 hc9 hij HP.out HPd.out rfl rfl HPv.out HPb.out Hbel.out)
          have HF := Lib.hid Hfin
          clear hc2 Hfin
          go_wp2_with fail
          go_quiet (fail)
          go_wp2_with fail
          exact ⟨(HF.out _).out, by simp [intOf] <;> omega⟩
        · by_cases h0 : cc = 0
          · subst h0
            have hyk : (digN k.natAbs).take j = digN k.natAbs := List.take_of_length_le (by rw [Hys.out]; omega)
            have hfin : dval P = dval ((digN z.natAbs).take (i + 1)) * dval (digN k.natAbs) := by
              have h1 := HPv.out
              rw [hyk] at h1
              rw [take_upD Hx.out, Nat.add_mul, Nat.mul_assoc]
              simpa using h1
            have Hfin := Lib.hid (show OuterInv w2 w2.heap.size (n + n' + 1) (digN z.natAbs) (digN k.natAbs) (.int .i64 ((i : Int) + 1)) wr from ⟨P, i + 1, rfl, by rw [Hxs.out]; exact hi2, HP.out, HPd.out, hfin, HPb.out, Hbel.out⟩)
            clear hyk hfin
            go_wp2
            exact ⟨Hfin.out, by simp [intOf] <;> omega⟩
          · have hc1 : 0 < cc := by omega
            have hij : i + j < n + n' + 1 := mul_room Hx.out (by rw [Hxs.out]; exact hi2) HX.out.dig HY.out.dig (by rw [Hxs.out, Hys.out]; omega) hc1 HPv.out (by rw [Hys.out]; omega)
            have cp := Hcell.out hij
            have e0 : y = 0 := by rw [← Hy.out]; simp [List.getD, List.getElem?_eq_none (by have := Hys.out; omega : (digN k.natAbs).length ≤ j)]
            subst e0
            have Hfin := fun m => Lib.hid (inner_step (m := m) (s := (p + cc) % 10) (d := (p + cc) / 10) (Nat.le_refl w2.heap.size) Hp.out Hy.out hx0 hx9 hy0 hy9 hc0 hc9 hij HP.out HPd.out (by simp) (by simp) HPv.out HPb.out Hbel.out)
            have HF := Lib.hid Hfin
            clear Hfin
            go_wp2_with fail
            exact ⟨(HF.out 0).out, by simp [intOf] <;> omega⟩
    · have hii : i = n := by omega
      have Hval := Lib.hid (show dval P = z.natAbs * k.natAbs by
        have h1 := HPv.out
        rw [List.take_of_length_le (by rw [hxs, hii]; exact Nat.le_refl _), dval_digN, dval_digN] at h1
        exact h1)
      have hisl := HPb.out.isL HP.out (Nat.le_refl (n + n' + 1))
      rcases sgn_cases z with ⟨hz, ez⟩ | ⟨hz, ez⟩ | ⟨hz, ez⟩
      · rw [ez] at Hsz
        clear ez
        rcases sgn_cases k with ⟨hk, ek⟩ | ⟨hk, ek⟩ | ⟨hk, ek⟩
        · rw [ek] at Hsk
          have Ht := Lib.hid (refText_any false _ _ (n + n' + 1) P wr hisl (by omega) (by omega) HPd.out)
          have he : textOf false P = R := by
            rw [← HR.out]
            refine textOf_txt HPd.out (by rw [Hval.out, Int.natAbs_mul]) (fun h0 => ?_)
            first
              | (exfalso; apply h0; first | (rw [hz]; exact Int.zero_mul _) | (rw [hk]; exact Int.mul_zero _))
              | (symm; apply decide_eq_true; first | exact Int.mul_neg_of_neg_of_pos hz hk | exact Int.mul_neg_of_pos_of_neg hz hk)
              | (symm; apply decide_eq_false; first | exact Int.not_lt.mpr (Int.le_of_lt (Int.mul_pos hz hk)) | exact Int.not_lt.mpr (Int.le_of_lt (Int.mul_pos_of_neg_of_neg hz hk)))
          rw [he] at Ht
          clear ek hz hk he
          go_wp2_with fail
          refine (Hsz.out _).mono ?_
          rintro e w5 ⟨rfl, rfl⟩
          go_wp2_with fail
          refine (Hsk.out _).mono ?_
          rintro e w5 ⟨rfl, rfl⟩
          go_wp2_with fail
          refine Ht.out.mono ?_
          rintro e w6 ⟨rfl, h6⟩
          have Kf := Lib.hid (K2.out.trans ((Hbel.out.trans (h6.mono Hbel.out.size)).mono hk2))
          clear h6
          go_wp2
          go_ret
          exact ⟨rfl, Kf.out⟩
        · rw [ek] at Hsk
          have Ht := Lib.hid (refText_any false _ _ (n + n' + 1) P wr hisl (by omega) (by omega) HPd.out)
          have he : textOf false P = R := by
            rw [← HR.out]
            refine textOf_txt HPd.out (by rw [Hval.out, Int.natAbs_mul]) (fun h0 => ?_)
            first
              | (exfalso; apply h0; first | (rw [hz]; exact Int.zero_mul _) | (rw [hk]; exact Int.mul_zero _))
              | (symm; apply decide_eq_true; first | exact Int.mul_neg_of_neg_of_pos hz hk | exact Int.mul_neg_of_pos_of_neg hz hk)
              | (symm; apply decide_eq_false; first | exact Int.not_lt.mpr (Int.le_of_lt (Int.mul_pos hz hk)) | exact Int.not_lt.mpr (Int.le_of_lt (Int.mul_pos_of_neg_of_neg hz hk)))
          rw [he] at Ht
          clear ek hz hk he
          go_wp2_with fail
          refine (Hsz.out _).mono ?_
          rintro e w5 ⟨rfl, rfl⟩
          go_wp2_with fail
          refine (Hsk.out _).mono ?_
          rintro e w5 ⟨rfl, rfl⟩
          go_wp2_with fail
          refine Ht.out.mono ?_
          rintro e w6 ⟨rfl, h6⟩
          have Kf := Lib.hid (K2.out.trans ((Hbel.out.trans (h6.mono Hbel.out.size)).mono hk2))
          clear h6
          go_wp2
          go_ret
          exact ⟨rfl, Kf.out⟩
        · rw [ek] at Hsk
          have Ht := Lib.hid (refText_any true _ _ (n + n' + 1) P wr hisl (by omega) (by omega) HPd.out)
          have he : textOf true P = R := by
            rw [← HR.out]
            refine textOf_txt HPd.out (by rw [Hval.out, Int.natAbs_mul]) (fun h0 => ?_)
            first
              | (exfalso; apply h0; first | (rw [hz]; exact Int.zero_mul _) | (rw [hk]; exact Int.mul_zero _))
              | (symm; apply decide_eq_true; first | exact Int.mul_neg_of_neg_of_pos hz hk | exact Int.mul_neg_of_pos_of_neg hz hk)
              | (symm; apply decide_eq_false; first | exact Int.not_lt.mpr (Int.le_of_lt (Int.mul_pos hz hk)) | exact Int.not_lt.mpr (Int.le_of_lt (Int.mul_pos_of_neg_of_neg hz hk)))
          rw [he] at Ht
          clear ek hz hk he
          go_wp2_with fail
          refine (Hsz.out _).mono ?_
          rintro e w5 ⟨rfl, rfl⟩
          go_wp2_with fail
          refine (Hsk.out _).mono ?_
          rintro e w5 ⟨rfl, rfl⟩
          go_wp2_with fail
          refine Ht.out.mono ?_
          rintro e w6 ⟨rfl, h6⟩
          have Kf := Lib.hid (K2.out.trans ((Hbel.out.trans (h6.mono Hbel.out.size)).mono hk2))
          clear h6
          go_wp2
          go_ret
          exact ⟨rfl, Kf.out⟩
      · rw [ez] at Hsz
        clear ez
        rcases sgn_cases k with ⟨hk, ek⟩ | ⟨hk, ek⟩ | ⟨hk, ek⟩
        · rw [ek] at Hsk
          have Ht := Lib.hid (refText_any false _ _ (n + n' + 1) P wr hisl (by omega) (by omega) HPd.out)
          have he : textOf false P = R := by
            rw [← HR.out]
            refine textOf_txt HPd.out (by rw [Hval.out, Int.natAbs_mul]) (fun h0 => ?_)
            first
              | (exfalso; apply h0; first | (rw [hz]; exact Int.zero_mul _) | (rw [hk]; exact Int.mul_zero _))
              | (symm; apply decide_eq_true; first | exact Int.mul_neg_of_neg_of_pos hz hk | exact Int.mul_neg_of_pos_of_neg hz hk)
              | (symm; apply decide_eq_false; first | exact Int.not_lt.mpr (Int.le_of_lt (Int.mul_pos hz hk)) | exact Int.not_lt.mpr (Int.le_of_lt (Int.mul_pos_of_neg_of_neg hz hk)))
          rw [he] at Ht
          clear ek hz hk he
          go_wp2_with fail
          refine (Hsz.out _).mono ?_
          rintro e w5 ⟨rfl, rfl⟩
          go_wp2_with fail
          refine (Hsk.out _).mono ?_
          rintro e w5 ⟨rfl, rfl⟩
          go_wp2_with fail
          refine Ht.out.mono ?_
          rintro e w6 ⟨rfl, h6⟩
          have Kf := Lib.hid (K2.out.trans ((Hbel.out.trans (h6.mono Hbel.out.size)).mono hk2))
          clear h6
          go_wp2
          go_ret
          exact ⟨rfl, Kf.out⟩
        · rw [ek] at Hsk
          have Ht := Lib.hid (refText_any false _ _ (n + n' + 1) P wr hisl (by omega) (by omega) HPd.out)
          have he : textOf false P = R := by
            rw [← HR.out]
            refine textOf_txt HPd.out (by rw [Hval.out, Int.natAbs_mul]) (fun h0 => ?_)
            first
              | (exfalso; apply h0; first | (rw [hz]; exact Int.zero_mul _) | (rw [hk]; exact Int.mul_zero _))
              | (symm; apply decide_eq_true; first | exact Int.mul_neg_of_neg_of_pos hz hk | exact Int.mul_neg_of_pos_of_neg hz hk)
              | (symm; apply decide_eq_false; first | exact Int.not_lt.mpr (Int.le_of_lt (Int.mul_pos hz hk)) | exact Int.not_lt.mpr (Int.le_of_lt (Int.mul_pos_of_neg_of_neg hz hk)))
          rw [he] at Ht
          clear ek hz hk he
          go_wp2_with fail
          refine (Hsz.out _).mono ?_
          rintro e w5 ⟨rfl, rfl⟩
          go_wp2_with fail
          refine (Hsk.out _).mono ?_
          rintro e w5 ⟨rfl, rfl⟩
          go_wp2_with fail
          refine Ht.out.mono ?_
          rintro e w6 ⟨rfl, h6⟩
          have Kf := Lib.hid (K2.out.trans ((Hbel.out.trans (h6.mono Hbel.out.size)).mono hk2))
          clear h6
          go_wp2
          go_ret
          exact ⟨rfl, Kf.out⟩
        · rw [ek] at Hsk
          have Ht := Lib.hid (refText_any false _ _ (n + n' + 1) P wr hisl (by omega) (by omega) HPd.out)
          have he : textOf false P = R := by
            rw [← HR.out]
            refine textOf_txt HPd.out (by rw [Hval.out, Int.natAbs_mul]) (fun h0 => ?_)
            first
              | (exfalso; apply h0; first | (rw [hz]; exact Int.zero_mul _) | (rw [hk]; exact Int.mul_zero _))
              | (symm; apply decide_eq_true; first | exact Int.mul_neg_of_neg_of_pos hz hk | exact Int.mul_neg_of_pos_of_neg hz hk)
              | (symm; apply decide_eq_false; first | exact Int.not_lt.mpr (Int.le_of_lt (Int.mul_pos hz hk)) | exact Int.not_lt.mpr (Int.le_of_lt (Int.mul_pos_of_neg_of_neg hz hk)))
          rw [he] at Ht
          clear ek hz hk he
          go_wp2_with fail
          refine (Hsz.out _).mono ?_
          rintro e w5 ⟨rfl, rfl⟩
          go_wp2_with fail
          refine (Hsk.out _).mono ?_
          rintro e w5 ⟨rfl, rfl⟩
          go_wp2_with fail
          refine Ht.out.mono ?_
          rintro e w6 ⟨rfl, h6⟩
          have Kf := Lib.hid (K2.out.trans ((Hbel.out.trans (h6.mono Hbel.out.size)).mono hk2))
          clear h6
          go_wp2
          go_ret
          exact ⟨rfl, Kf.out⟩
      · rw [ez] at Hsz
        clear ez
        rcases sgn_cases k with ⟨hk, ek⟩ | ⟨hk, ek⟩ | ⟨hk, ek⟩
        · rw [ek] at Hsk
          have Ht := Lib.hid (refText_any true _ _ (n + n' + 1) P wr hisl (by omega) (by omega) HPd.out)
          have he : textOf true P = R := by
            rw [← HR.out]
            refine textOf_txt HPd.out (by rw [Hval.out, Int.natAbs_mul]) (fun h0 => ?_)
            first
              | (exfalso; apply h0; first | (rw [hz]; exact Int.zero_mul _) | (rw [hk]; exact Int.mul_zero _))
              | (symm; apply decide_eq_true; first | exact Int.mul_neg_of_neg_of_pos hz hk | exact Int.mul_neg_of_pos_of_neg hz hk)
              | (symm; apply decide_eq_false; first | exact Int.not_lt.mpr (Int.le_of_lt (Int.mul_pos hz hk)) | exact Int.not_lt.mpr (Int.le_of_lt (Int.mul_pos_of_neg_of_neg hz hk)))
          rw [he] at Ht
          clear ek hz hk he
          go_wp2_with fail
          refine (Hsz.out _).mono ?_
          rintro e w5 ⟨rfl, rfl⟩
          go_wp2_with fail
          refine (Hsk.out _).mono ?_
          rintro e w5 ⟨rfl, rfl⟩
          go_wp2_with fail
          refine Ht.out.mono ?_
          rintro e w6 ⟨rfl, h6⟩
          have Kf := Lib.hid (K2.out.trans ((Hbel.out.trans (h6.mono Hbel.out.size)).mono hk2))
          clear h6
          go_wp2
          go_ret
          exact ⟨rfl, Kf.out⟩
        · rw [ek] at Hsk
          have Ht := Lib.hid (refText_any false _ _ (n + n' + 1) P wr hisl (by omega) (by omega) HPd.out)
          have he : textOf false P = R := by
            rw [← HR.out]
            refine textOf_txt HPd.out (by rw [Hval.out, Int.natAbs_mul]) (fun h0 => ?_)
            first
              | (exfalso; apply h0; first | (rw [hz]; exact Int.zero_mul _) | (rw [hk]; exact Int.mul_zero _))
              | (symm; apply decide_eq_true; first | exact Int.mul_neg_of_neg_of_pos hz hk | exact Int.mul_neg_of_pos_of_neg hz hk)
              | (symm; apply decide_eq_false; first | exact Int.not_lt.mpr (Int.le_of_lt (Int.mul_pos hz hk)) | exact Int.not_lt.mpr (Int.le_of_lt (Int.mul_pos_of_neg_of_neg hz hk)))
          rw [he] at Ht
          clear ek hz hk he
          go_wp2_with fail
          refine (Hsz.out _).mono ?_
          rintro e w5 ⟨rfl, rfl⟩
          go_wp2_with fail
          refine (Hsk.out _).mono ?_
          rintro e w5 ⟨rfl, rfl⟩
          go_wp2_with fail
          refine Ht.out.mono ?_
          rintro e w6 ⟨rfl, h6⟩
          have Kf := Lib.hid (K2.out.trans ((Hbel.out.trans (h6.mono Hbel.out.size)).mono hk2))
          clear h6
          go_wp2
          go_ret
          exact ⟨rfl, Kf.out⟩
        · rw [ek] at Hsk
          have Ht := Lib.hid (refText_any false _ _ (n + n' + 1) P wr hisl (by omega) (by omega) HPd.out)
          have he : textOf false P = R := by
            rw [← HR.out]
            refine textOf_txt HPd.out (by rw [Hval.out, Int.natAbs_mul]) (fun h0 => ?_)
            first
              | (exfalso; apply h0; first | (rw [hz]; exact Int.zero_mul _) | (rw [hk]; exact Int.mul_zero _))
              | (symm; apply decide_eq_true; first | exact Int.mul_neg_of_neg_of_pos hz hk | exact Int.mul_neg_of_pos_of_neg hz hk)
              | (symm; apply decide_eq_false; first | exact Int.not_lt.mpr (Int.le_of_lt (Int.mul_pos hz hk)) | exact Int.not_lt.mpr (Int.le_of_lt (Int.mul_pos_of_neg_of_neg hz hk)))
          rw [he] at Ht
          clear ek hz hk he
          go_wp2_with fail
          refine (Hsz.out _).mono ?_
          rintro e w5 ⟨rfl, rfl⟩
          go_wp2_with fail
          refine (Hsk.out _).mono ?_
          rintro e w5 ⟨rfl, rfl⟩
          go_wp2_with fail
          refine Ht.out.mono ?_
          rintro e w6 ⟨rfl, h6⟩
          have Kf := Lib.hid (K2.out.trans ((Hbel.out.trans (h6.mono Hbel.out.size)).mono hk2))
          clear h6
          go_wp2
          go_ret
          exact ⟨rfl, Kf.out⟩
end Go.Proofs.YtjcblcikipmojaaGreatDoor
