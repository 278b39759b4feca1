/- The model: publish, remove, rename. -/
import Derived.Test.YtbmogecnepgnaaaDci
namespace Go.Proofs.Ytbmogecnepgnaaa
open Go.RowKit Go.Maps Go.Shelf
def pMe (md : Md) : Int := if md.down then 18 else if flB md then 32 else 0
def pMs (md : Md) : Md := if md.down then md else if flB md then flS md else { flS md with dur := (flS md).names, pend := [] }
def rMe (md : Md) (name : ByteArray) : Int := if md.down then 18 else if findM md.names name < 0 then 10 else if flB md then 32 else 0
def rMs (md : Md) (name : ByteArray) : Md := if md.down then md else if findM md.names name < 0 then md else apM (flS md) (name, ⟨#[]⟩, 0)
def nMe (md : Md) (a b : ByteArray) : Int := if md.down then 18 else if findM md.names a < 0 then 10 else if fileB b = false then 11 else if flB md then 32 else 0
def nMs (md : Md) (a b : ByteArray) : Md := if md.down then md else if findM md.names a < 0 then md else if fileB b = false then md else apM (flS md) (a, b, (findM md.names a).toNat)
set_option maxRecDepth 100000 in
set_option maxHeartbeats 16000000 in
theorem publishM_any {w : World} {pm : Nat} {md : Md} (hM : MdAt w pm md) (hB : MB md) :
    Calls Try.prog 29 #[ptrV pm] w fun e w' => e = .returned (.int .i64 (pMe md)) ∧ MdAt w' pm (pMs md) ∧ w.grownBy w' (some pm) := by
  have HM := Lib.hid hM
  obtain ⟨vf, vn, vd, vp, h⟩ := hM
  obtain ⟨_, _, c2, _, c4, _, _⟩ := h.at7
  have hlm := hB.lm
  have HE := Lib.hid (show pMe md = if md.down then 18 else if flB md then 32 else 0 from rfl)
  have HS := Lib.hid (show pMs md = if md.down then md else if flB md then flS md else { flS md with dur := (flS md).names, pend := [] } from rfl)
  obtain ⟨RE, hRE⟩ : ∃ R, pMe md = R := ⟨_, rfl⟩
  obtain ⟨RS, hRS⟩ : ∃ R, pMs md = R := ⟨_, rfl⟩
  rw [hRE] at HE ⊢
  rw [hRS] at HS ⊢
  clear h hRE hRS c4
  obtain ⟨dn, hdn⟩ : ∃ q, md.down = q := ⟨_, rfl⟩
  rw [hdn] at c2 HE HS
  have Hdn := Lib.hid hdn
  clear hdn
  cases dn
  · obtain ⟨b, hb⟩ : ∃ b, flB md = b := ⟨_, rfl⟩
    rw [hb] at HE HS
    have Hb := Lib.hid hb
    clear hb
    cases b
    · have H1 := Lib.hid (show RE = 0 ∧ RS = { flS md with dur := (flS md).names, pend := [] } from ⟨by rw [HE.out]; rfl, by rw [HS.out]; rfl⟩)
      clear HE HS
      go_enter Try.func29, Try.ntmps29
      go_wp2_with fail
      have hq := fails_any HM.out ⟨hlm.2, hlm.1⟩
      rw [Hb.out] at hq
      refine hq.mono ?_
      rintro e w3 ⟨rfl, hm3, hg3⟩
      obtain ⟨M1, hM1⟩ : ∃ M, flS md = M := ⟨_, rfl⟩
      rw [hM1] at hm3 H1
      clear hq c2 hM1
      obtain ⟨vf, vn, vd, vp, h3⟩ := hm3
      obtain ⟨An, cn, en, _, _, _, _⟩ := h3.n.slice
      subst en
      obtain ⟨_, _, _, _, c4, _, _⟩ := h3.at7
      have y5 := h3.fz 5
      have y6 := h3.fz 6
      have hs1 := h3.set (md' := { M1 with dur := M1.names }) 5 (.slice An M1.names.length cn) rfl h3.f h3.n h3.n h3.p
      have hs2 := hs1.1.set (md' := { M1 with dur := M1.names, pend := [] }) 6 (.slice none 0 0) rfl hs1.1.f hs1.1.n hs1.1.d (RowAt.nil _ _ _)
      have HF := Lib.hid hs2.1
      have HG := Lib.hid (grown_trans hg3 (grown_trans hs1.2 hs2.2))
      clear h3 hs1 hs2 hg3
      go_wp2_with fail
      go_ret
      exact ⟨by rw [H1.out.1]; rfl, by rw [H1.out.2]; exact ⟨_, _, _, _, HF.out⟩, HG.out⟩
    · have H1 := Lib.hid (show RE = 32 ∧ RS = flS md from ⟨by rw [HE.out]; rfl, by rw [HS.out]; rfl⟩)
      clear HE HS
      go_enter Try.func29, Try.ntmps29
      go_wp2_with fail
      have hq := fails_any HM.out ⟨hlm.2, hlm.1⟩
      rw [Hb.out] at hq
      refine hq.mono ?_
      rintro e w3 ⟨rfl, hm3, hg3⟩
      have HF := Lib.hid hm3
      have HG := Lib.hid hg3
      clear hq hm3 hg3
      go_wp2_with fail
      go_ret
      exact ⟨by rw [H1.out.1]; rfl, by rw [H1.out.2]; exact HF.out, HG.out⟩
  · have H1 := Lib.hid (show RE = 18 ∧ RS = md from ⟨by rw [HE.out]; rfl, by rw [HS.out]; rfl⟩)
    clear HE HS
    go_enter Try.func29, Try.ntmps29
    go_wp2_with fail
    go_ret
    exact ⟨by rw [H1.out.1]; rfl, by rw [H1.out.2]; exact HM.out, World.grownBy.refl _ _⟩
set_option maxRecDepth 100000 in
set_option maxHeartbeats 16000000 in
theorem removeM_any {w : World} {pm : Nat} {md : Md} (hM : MdAt w pm md) (hB : MB md) (name : ByteArray) :
    Calls Try.prog 24 #[ptrV pm, .string name] w fun e w' => e = .returned (.int .i64 (rMe md name)) ∧ MdAt w' pm (rMs md name) ∧ w.grownBy w' (some pm) := by
  have HM := Lib.hid hM
  obtain ⟨vf, vn, vd, vp, h⟩ := hM
  obtain ⟨_, _, c2, _, c4, _, _⟩ := h.at7
  have HN := Lib.hid h.n
  have hnl := hB.nl
  have hpl := hB.pl
  have hlm := hB.lm
  obtain ⟨K, hK⟩ : ∃ K, findM md.names name = K := ⟨_, rfl⟩
  have HE := Lib.hid (show rMe md name = if md.down then 18 else if K < 0 then 10 else if flB md then 32 else 0 by unfold rMe; rw [hK])
  have HS := Lib.hid (show rMs md name = if md.down then md else if K < 0 then md else apM (flS md) (name, ⟨#[]⟩, 0) by unfold rMs; rw [hK])
  obtain ⟨RE, hRE⟩ : ∃ R, rMe md name = R := ⟨_, rfl⟩
  obtain ⟨RS, hRS⟩ : ∃ R, rMs md name = R := ⟨_, rfl⟩
  rw [hRE] at HE ⊢
  rw [hRS] at HS ⊢
  clear h hRE hRS
  obtain ⟨dn, hdn⟩ : ∃ q, md.down = q := ⟨_, rfl⟩
  rw [hdn] at c2 HE HS
  clear hdn
  cases dn
  · by_cases hk0 : K < 0
    · have e1 : decide (K < 0) = true := decide_eq_true hk0
      have H1 := Lib.hid (show RE = 10 ∧ RS = md from ⟨by rw [HE.out, if_neg (by decide), if_pos hk0], by rw [HS.out, if_neg (by decide), if_pos hk0]⟩)
      clear HE HS
      go_enter Try.func24, Try.ntmps24
      go_wp2_with fail
      refine (findE_any HN.out rfl (by omega) name).mono ?_
      rintro e w2 ⟨rfl, rfl⟩
      rw [hK]
      go_wp2_with fail
      go_ret
      exact ⟨by rw [H1.out.1]; rfl, by rw [H1.out.2]; exact HM.out, World.grownBy.refl _ _⟩
    · have e1 : decide (K < 0) = false := decide_eq_false hk0
      obtain ⟨b, hb⟩ : ∃ b, flB md = b := ⟨_, rfl⟩
      rw [hb] at HE
      have Hb := Lib.hid hb
      clear hb
      have H1 := Lib.hid (show RE = (if b then 32 else 0) ∧ RS = apM (flS md) (name, ⟨#[]⟩, 0) from ⟨by rw [HE.out, if_neg (by decide), if_neg hk0], by rw [HS.out, if_neg (by decide), if_neg hk0]⟩)
      clear HE HS
      obtain ⟨r9, hr9⟩ : ∃ r : Int, (if b = true then (32 : Int) else 0) = r := ⟨_, rfl⟩
      rw [hr9] at H1
      go_enter Try.func24, Try.ntmps24
      go_wp2_with fail
      refine (findE_any HN.out rfl (by omega) name).mono ?_
      rintro e w2 ⟨rfl, rfl⟩
      rw [hK]
      go_wp2_with fail
      have hq := fails_any HM.out ⟨hlm.2, hlm.1⟩
      rw [Hb.out] at hq
      refine hq.mono ?_
      rintro e w3 ⟨rfl, hm3, hg3⟩
      obtain ⟨M1, hM1⟩ : ∃ M, flS md = M := ⟨_, rfl⟩
      have hk1 := flS_keep md
      rw [hM1] at hm3 H1 hk1
      have HM3 := Lib.hid hm3
      have HG3 := Lib.hid hg3
      have HK1 := Lib.hid hk1
      clear hq hm3 hg3 hM1 hk1 c2 c4
      go_wp2_with fail
      refine (apply_any HM3.out (by rw [HK1.out.2.1]; omega) (by rw [HK1.out.2.2.2.1]; omega) (name, ⟨#[]⟩, 0)).mono ?_
      rintro e w4 ⟨⟨v4, rfl⟩, hm4, hg4⟩
      have HF := Lib.hid hm4
      have HG := Lib.hid (grown_trans HG3.out hg4)
      clear hm4 hg4
      go_wp2_with fail
      have HO := Lib.hid (outcome_any b w4)
      rw [hr9] at HO
      refine HO.out.mono ?_
      rintro e w5 ⟨rfl, rfl⟩
      go_wp2_with fail
      go_ret
      exact ⟨by rw [H1.out.1]; rfl, by rw [H1.out.2]; exact HF.out, HG.out⟩
  · have H1 := Lib.hid (show RE = 18 ∧ RS = md from ⟨by rw [HE.out, if_pos rfl], by rw [HS.out, if_pos rfl]⟩)
    clear HE HS
    go_enter Try.func24, Try.ntmps24
    go_wp2_with fail
    go_ret
    exact ⟨by rw [H1.out.1]; rfl, by rw [H1.out.2]; exact HM.out, World.grownBy.refl _ _⟩
set_option maxRecDepth 100000 in
set_option maxHeartbeats 16000000 in
theorem renameM_any {w : World} {pm : Nat} {md : Md} (hM : MdAt w pm md) (hB : MB md) (name dst : ByteArray) (hds : dst.size ≤ 16777216) :
    Calls Try.prog 20 #[ptrV pm, .string name, .string dst] w fun e w' => e = .returned (.int .i64 (nMe md name dst)) ∧ MdAt w' pm (nMs md name dst) ∧ w.grownBy w' (some pm) := by
  have HM := Lib.hid hM
  obtain ⟨vf, vn, vd, vp, h⟩ := hM
  obtain ⟨_, _, c2, _, c4, _, _⟩ := h.at7
  have HN := Lib.hid h.n
  have hnl := hB.nl
  have hpl := hB.pl
  have hlm := hB.lm
  obtain ⟨K, hK⟩ : ∃ K, findM md.names name = K := ⟨_, rfl⟩
  have HE := Lib.hid (show nMe md name dst = if md.down then 18 else if K < 0 then 10 else if fileB dst = false then 11 else if flB md then 32 else 0 by unfold nMe; rw [hK])
  have HS := Lib.hid (show nMs md name dst = if md.down then md else if K < 0 then md else if fileB dst = false then md else apM (flS md) (name, dst, K.toNat) by unfold nMs; rw [hK])
  obtain ⟨RE, hRE⟩ : ∃ R, nMe md name dst = R := ⟨_, rfl⟩
  obtain ⟨RS, hRS⟩ : ∃ R, nMs md name dst = R := ⟨_, rfl⟩
  rw [hRE] at HE ⊢
  rw [hRS] at HS ⊢
  clear h hRE hRS
  obtain ⟨dn, hdn⟩ : ∃ q, md.down = q := ⟨_, rfl⟩
  rw [hdn] at c2 HE HS
  clear hdn
  cases dn
  · by_cases hk0 : K < 0
    · have e1 : decide (K < 0) = true := decide_eq_true hk0
      have H1 := Lib.hid (show RE = 10 ∧ RS = md from ⟨by rw [HE.out, if_neg (by decide), if_pos hk0], by rw [HS.out, if_neg (by decide), if_pos hk0]⟩)
      clear HE HS
      go_enter Try.func20, Try.ntmps20
      go_wp2_with fail
      refine (findE_any HN.out rfl (by omega) name).mono ?_
      rintro e w2 ⟨rfl, rfl⟩
      rw [hK]
      go_wp2_with fail
      go_ret
      exact ⟨by rw [H1.out.1]; rfl, by rw [H1.out.2]; exact HM.out, World.grownBy.refl _ _⟩
    · have e1 : decide (K < 0) = false := decide_eq_false hk0
      obtain ⟨k, e9⟩ : ∃ k : Nat, K = (k : Nat) := ⟨K.toNat, by omega⟩
      subst e9
      rw [Int.toNat_natCast] at HS
      obtain ⟨fb, hfb⟩ : ∃ b, fileB dst = b := ⟨_, rfl⟩
      have HN2 := Lib.hid (fun w => isName_any dst w (by omega))
      rw [hfb] at HE HS HN2
      clear hfb
      cases fb
      · have H1 := Lib.hid (show RE = 11 ∧ RS = md from ⟨by rw [HE.out, if_neg (by decide), if_neg hk0, if_pos rfl], by rw [HS.out, if_neg (by decide), if_neg hk0, if_pos rfl]⟩)
        clear HE HS
        go_enter Try.func20, Try.ntmps20
        go_wp2_with fail
        refine (findE_any HN.out rfl (by omega) name).mono ?_
        rintro e w2 ⟨rfl, rfl⟩
        rw [hK]
        go_wp2_with fail
        refine (HN2.out _).mono ?_
        rintro e w2 ⟨rfl, rfl⟩
        go_wp2_with fail
        go_ret
        exact ⟨by rw [H1.out.1]; rfl, by rw [H1.out.2]; exact HM.out, World.grownBy.refl _ _⟩
      · obtain ⟨b, hb⟩ : ∃ b, flB md = b := ⟨_, rfl⟩
        rw [hb] at HE
        have Hb := Lib.hid hb
        clear hb
        have H1 := Lib.hid (show RE = (if b then 32 else 0) ∧ RS = apM (flS md) (name, dst, k) from ⟨by rw [HE.out, if_neg (by decide), if_neg hk0, if_neg (by decide)], by rw [HS.out, if_neg (by decide), if_neg hk0, if_neg (by decide)]⟩)
        clear HE HS
        obtain ⟨r9, hr9⟩ : ∃ r : Int, (if b = true then (32 : Int) else 0) = r := ⟨_, rfl⟩
        rw [hr9] at H1
        go_enter Try.func20, Try.ntmps20
        go_wp2_with fail
        refine (findE_any HN.out rfl (by omega) name).mono ?_
        rintro e w2 ⟨rfl, rfl⟩
        rw [hK]
        go_wp2_with fail
        refine (HN2.out _).mono ?_
        rintro e w2 ⟨rfl, rfl⟩
        go_wp2_with fail
        have hq := fails_any HM.out ⟨hlm.2, hlm.1⟩
        rw [Hb.out] at hq
        refine hq.mono ?_
        rintro e w3 ⟨rfl, hm3, hg3⟩
        obtain ⟨M1, hM1⟩ : ∃ M, flS md = M := ⟨_, rfl⟩
        have hk1 := flS_keep md
        rw [hM1] at hm3 H1 hk1
        have HM3 := Lib.hid hm3
        have HG3 := Lib.hid hg3
        have HK1 := Lib.hid hk1
        clear hq hm3 hg3 hM1 hk1 c2 c4
        go_wp2_with fail
        refine (apply_any HM3.out (by rw [HK1.out.2.1]; omega) (by rw [HK1.out.2.2.2.1]; omega) (name, dst, k)).mono ?_
        rintro e w4 ⟨⟨v4, rfl⟩, hm4, hg4⟩
        have HF := Lib.hid hm4
        have HG := Lib.hid (grown_trans HG3.out hg4)
        clear hm4 hg4
        go_wp2_with fail
        have HO := Lib.hid (outcome_any b w4)
        rw [hr9] at HO
        refine HO.out.mono ?_
        rintro e w5 ⟨rfl, rfl⟩
        go_wp2_with fail
        go_ret
        exact ⟨by rw [H1.out.1]; rfl, by rw [H1.out.2]; exact HF.out, HG.out⟩
  · have H1 := Lib.hid (show RE = 18 ∧ RS = md from ⟨by rw [HE.out, if_pos rfl], by rw [HS.out, if_pos rfl]⟩)
    clear HE HS
    go_enter Try.func20, Try.ntmps20
    go_wp2_with fail
    refine (findE_any HN.out rfl (by omega) name).mono ?_
    rintro e w2 ⟨rfl, rfl⟩
    go_wp2_with fail
    go_ret
    exact ⟨by rw [H1.out.1]; rfl, by rw [H1.out.2]; exact HM.out, World.grownBy.refl _ _⟩
end Go.Proofs.Ytbmogecnepgnaaa
