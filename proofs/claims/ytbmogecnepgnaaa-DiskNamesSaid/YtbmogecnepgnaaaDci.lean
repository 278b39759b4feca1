/- The model: sync. -/
import Derived.Test.YtbmogecnepgnaaaDch
namespace Go.Proofs.Ytbmogecnepgnaaa
open Go.RowKit Go.Maps Go.Shelf
theorem durM_len (l : List Ent) (k : Nat) : (durM l k).length = l.length := by
  unfold durM
  split
  · rw [List.length_set]
  · rfl
theorem gb_drew {a b : World} {q : Option Nat} (h : a.grownBy b q) : a.grownBy b.drew q := ⟨h.os, h.tape, h.output, h.size, h.block⟩
theorem set_same {α : Type} : ∀ {l : List α} {i : Nat} {a : α}, l[i]? = some a → l.set i a = l
  | [], _, _, h => by cases h
  | b :: l, 0, a, h => by
    have : b = a := by simpa using h
    rw [this]; rfl
  | b :: l, i + 1, a, h => by rw [List.set_cons_succ, set_same (by simpa using h)]
theorem durM_C {l : List Ent} {k : Nat} {f : Ent} (h : l[k]? = some f) : entC (durM l k) = (entC l).set (k * 2 + 1) (.int .i64 (f.1.size : Nat)) := by
  unfold durM
  rw [h]
  simp only
  rw [entC_set, set_same (entC_at l k f h).1]
set_option maxRecDepth 100000 in
set_option maxHeartbeats 16000000 in
theorem syncM_any {w : World} {pm : Nat} {md : Md} (hM : MdAt w pm md) (hB : MB md) (name : ByteArray) :
    Calls Try.prog 22 #[ptrV pm, .string name] w fun e w' => e = .returned (.int .i64 (sMe md name)) ∧ MdAt w' pm (sMs md name) ∧ w.grownBy w' (some pm) := by
  obtain ⟨i0, hi, hz0, hz1, hz2⟩ := info_parts info_fil
  have HM := Lib.hid hM
  obtain ⟨vf, vn, vd, vp, h⟩ := hM
  obtain ⟨_, _, c2, _, c4, _, _⟩ := h.at7
  have HN := Lib.hid h.n
  have hnl := hB.nl
  have hfl := hB.fl
  have hlm := hB.lm
  have HV := Lib.hid h
  obtain ⟨K, hK⟩ : ∃ K, findM md.names name = K := ⟨_, rfl⟩
  have HK := Lib.hid hK
  have HE := Lib.hid (show sMe md name = if md.down then 18 else if K < 0 then 10 else if flB md then 32 else 0 by unfold sMe; rw [hK])
  have HS := Lib.hid (show sMs md name = if md.down then md else if K < 0 then md else if flB md then flS md else { flS md with files := durM (flS md).files K.toNat } by unfold sMs; rw [hK])
  obtain ⟨RE, hRE⟩ : ∃ R, sMe md name = R := ⟨_, rfl⟩
  obtain ⟨RS, hRS⟩ : ∃ R, sMs md name = R := ⟨_, rfl⟩
  rw [hRE] at HE ⊢
  rw [hRS] at HS ⊢
  clear h hRE hRS
  obtain ⟨dn, hdn⟩ : ∃ q, md.down = q := ⟨_, rfl⟩
  rw [hdn] at c2 HE HS
  have Hdn := Lib.hid hdn
  clear hdn
  cases dn
  · by_cases hk0 : K < 0
    · have e1 : decide (K < 0) = true := decide_eq_true hk0
      have H1 := Lib.hid (show RE = 10 ∧ RS = md from ⟨by rw [HE.out, if_neg (by decide), if_pos hk0], by rw [HS.out, if_neg (by decide), if_pos hk0]⟩)
      clear HE HS
      go_enter Try.func22, Try.ntmps22
      go_wp2_with fail
      refine (findE_any HN.out rfl (by omega) name).mono ?_
      rintro e w2 ⟨rfl, rfl⟩
      rw [hK]
      go_wp2_with fail
      go_ret
      exact ⟨by rw [H1.out.1]; rfl, by rw [H1.out.2]; exact HM.out, World.grownBy.refl _ _⟩
    · have e1 : decide (K < 0) = false := decide_eq_false hk0
      have HX := Lib.hid (show ∃ e ∈ md.names, K = (e.2 : Nat) by obtain ⟨e, he, h1, _⟩ := findM_in (by rw [hK]; exact hk0); exact ⟨e, he, by rw [← hK, h1]⟩)
      obtain ⟨b, hb⟩ : ∃ b, flB md = b := ⟨_, rfl⟩
      rw [hb] at HE HS
      have Hb := Lib.hid hb
      clear hb
      cases b
      · have H1 := Lib.hid (show RE = 0 ∧ RS = { flS md with files := durM (flS md).files K.toNat } from ⟨by rw [HE.out, if_neg (by decide), if_neg hk0]; rfl, by rw [HS.out, if_neg (by decide), if_neg hk0]; rfl⟩)
        clear HE HS
        go_enter Try.func22, Try.ntmps22
        go_wp2_with fail
        refine (findE_any HN.out rfl (by omega) name).mono ?_
        rintro e w2 ⟨rfl, rfl⟩
        rw [hK]
        go_wp2_with fail
        have hq := fails_any HM.out ⟨hlm.2, hlm.1⟩
        rw [Hb.out] at hq
        refine hq.mono ?_
        rintro e w3 ⟨rfl, hm3, hg3⟩
        have HG3 := Lib.hid hg3
        obtain ⟨M1, hM1⟩ : ∃ M, flS md = M := ⟨_, rfl⟩
        have hk1 := flS_keep md
        rw [hM1] at hm3 H1 hk1
        have HK1 := Lib.hid hk1
        have hB' := hB
        have hB : M1.files.length ≤ 900 := by rw [hk1.1]; exact hfl
        clear hq hg3 c2 c4 hM1 hk1
        obtain ⟨vf, vn, vd, vp, h3⟩ := hm3
        have HM3 := Lib.hid h3
        obtain ⟨k, e9, hk9⟩ : ∃ k : Nat, K = (k : Nat) ∧ k < M1.files.length := by
          obtain ⟨e, he, h1⟩ := HX.out
          exact ⟨e.2, h1, by rw [HK1.out.1]; exact hB'.ix e he⟩
        subst e9
        have hpos : 0 < M1.files.length := by omega
        have Hpos := Lib.hid hpos
        have Hk9 := Lib.hid hk9
        clear h3 HX e1 hk0 hpos hk9
        have hal := (Below.refl w3.heap.size w3).alloc (Nat.le_refl _) (.cells #[] 73)
        have ha := HM3.out.keep hal
        obtain ⟨Af, cf, ef, _, _, _, _⟩ := HM3.out.f.slice
        subst ef
        obtain ⟨_, _, _, x3, _, _, _⟩ := ha.at7
        have y3 := ha.fz 3
        have HF := Lib.hid ha.f
        have HA := Lib.hid ha
        clear ha
        go_wp2_with (at_builtin; refine wpList_append_row rfl _ _ 30 rfl w3.heap.size 73 i0 _ 2 24 Try.underlying30 hi hz0 hz1 hz2 rfl (by decide) rfl (own_fresh w3 w3.heap.size 73 2 0 #[] rfl (Nat.zero_le _) (Nat.le_refl _)) rfl HF.out (entC_one _) (by show 0 + M1.files.length ≤ 1000000; omega) (by decide) (size_le (Nat.le_refl _)) ?_)
        intro v4 V4 ho hg
        have hb4 : Below w3.heap.size w3 V4 := hal.trans (below_row hg (fun k hk => own_ge (own_fresh w3 w3.heap.size 73 2 0 #[] rfl (Nat.zero_le _) (Nat.le_refl _)) hk) (size_le (Nat.le_refl _)))
        have HB4 := Lib.hid hb4
        clear x3 y3
        have h4 := HM3.out.keep hb4
        obtain ⟨_, _, _, x3, _, _, _⟩ := h4.at7
        have y3 := h4.fz 3
        obtain ⟨A4, c4', e4, _, _, hA4, _⟩ := own_row ho
        subst e4
        obtain ⟨g4, e4⟩ := hA4 Hpos.out
        subst e4
        have hS := h4.set 3 (.slice (some ⟨g4, 0, none⟩) M1.files.length c4') (md' := M1) rfl (RowAt.of_own ho) h4.n h4.d h4.p
        have hgr := own_cells ho
        obtain ⟨hg1, hg2, ⟨cur4, hg3⟩, _, _⟩ := hgr
        have hne4 : g4 ≠ pm := fun e => by rw [e, h4.obj] at hg3; injection hg3 with hg3; injection hg3 with _ hg3; exact absurd hg3 (by decide)
        have hO := own_grown ho hS.2 (fun e => by injection e with e; exact hne4 e)
        have HM4 := Lib.hid hS.1
        have HO4 := Lib.hid hO
        have HG4 := Lib.hid (grown_trans HG3.out (grown_trans (gb_of hb4 (some pm)) hS.2))
        have Hgl := Lib.hid (Nat.le_trans HG3.out.size hg2)
        clear h4 hS hO ho hg hb4 hal hg1 hg2 hg3
        go_wp2_with fail
        clear x3 y3
        generalize (V4.setCell ⟨pm, 3, none⟩ (.slice (some ⟨g4, 0, none⟩) M1.files.length c4')) = W5 at HM4 HO4 HG4 ⊢
        obtain ⟨fx, hfx⟩ : ∃ f, M1.files[k]? = some f := ⟨_, List.getElem?_eq_getElem Hk9.out⟩
        have hoc := own_cells HO4.out
        have he := entC_at M1.files k fx hfx
        have q0 := hoc.2.2.2.2 _ _ he.1
        have q1 := hoc.2.2.2.2 _ _ he.2
        have q2 := hoc.2.2.2.1 (k * 2 + 1)
        obtain ⟨_, _, _, p3, _, _, _⟩ := HM4.out.at7
        have hkn2 : (k : Int) < (M1.files.length : Int) := by have := Hk9.out; omega
        have hp := own_put HO4.out (k * 2 + 1) (.int .i64 (fx.1.size : Nat))
        rw [← durM_C hfx] at hp
        have hr := RowAt.of_own hp
        rw [← durM_len M1.files k] at hr
        have HFF := Lib.hid (HM4.out.files hoc.2.2.1 (by rw [durM_len] at hr ⊢; exact hr))
        have hgc := grown_cells g4 [.int .i64 (fx.1.size : Nat)] (k * 2 + 1) W5
        have e5 : W5.setCells g4 (k * 2 + 1) [.int .i64 (fx.1.size : Nat)] = W5.setCell ⟨g4, k * 2 + 1, none⟩ (.int .i64 (fx.1.size : Nat)) := rfl
        rw [e5] at hgc
        have HGF := Lib.hid (gb_fresh HG4.out hgc Hgl.out)
        clear hoc he hfx hp hr hgc e5
        go_region
        go_wp2_with fail
        go_ret
        exact ⟨by rw [H1.out.1]; rfl, by rw [H1.out.2, Int.toNat_natCast]; exact ⟨_, _, _, _, HFF.out.keep (Below.refl _ _).drew⟩, gb_drew HGF.out⟩
      · have H1 := Lib.hid (show RE = 32 ∧ RS = flS md from ⟨by rw [HE.out, if_neg (by decide), if_neg hk0]; rfl, by rw [HS.out, if_neg (by decide), if_neg hk0]; rfl⟩)
        clear HE HS
        go_enter Try.func22, Try.ntmps22
        go_wp2_with fail
        refine (findE_any HN.out rfl (by omega) name).mono ?_
        rintro e w2 ⟨rfl, rfl⟩
        rw [hK]
        go_wp2_with fail
        have hq := fails_any HM.out ⟨hlm.2, hlm.1⟩
        rw [Hb.out] at hq
        refine hq.mono ?_
        rintro e w3 ⟨rfl, hm3, hg3⟩
        have HF := Lib.hid hm3
        have HG := Lib.hid hg3
        clear hq hm3 hg3
        go_wp2_with fail
        go_ret
        exact ⟨by rw [H1.out.1]; rfl, by rw [H1.out.2]; exact HF.out, HG.out⟩
  · have H1 := Lib.hid (show RE = 18 ∧ RS = md from ⟨by rw [HE.out, if_pos rfl], by rw [HS.out, if_pos rfl]⟩)
    clear HE HS
    go_enter Try.func22, Try.ntmps22
    go_wp2_with fail
    refine (findE_any HN.out rfl (by omega) name).mono ?_
    rintro e w2 ⟨rfl, rfl⟩
    go_wp2_with fail
    go_ret
    exact ⟨by rw [H1.out.1]; rfl, by rw [H1.out.2]; exact HM.out, World.grownBy.refl _ _⟩
end Go.Proofs.Ytbmogecnepgnaaa
