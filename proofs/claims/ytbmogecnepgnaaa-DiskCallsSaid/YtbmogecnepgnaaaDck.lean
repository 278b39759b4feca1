/- The model: append. -/
import Derived.Test.YtbmogecnepgnaaaDcj
namespace Go.Proofs.Ytbmogecnepgnaaa
open Go.RowKit Go.Maps Go.Shelf
def addM (l : List Ent) (k : Nat) (d : ByteArray) : List Ent := match l[k]? with
  | some f => l.set k (f.1 ++ d, f.2)
  | none => l
theorem addM_len (l : List Ent) (k : Nat) (d : ByteArray) : (addM l k d).length = l.length := by
  unfold addM
  split
  · rw [List.length_set]
  · rfl
theorem addM_C {l : List Ent} {k : Nat} {f : Ent} (d : ByteArray) (h : l[k]? = some f) : entC (addM l k d) = (entC l).set (k * 2) (.string (f.1 ++ d)) := by
  unfold addM
  rw [h]
  simp only
  rw [entC_set, List.set_comm _ _ (by omega), set_same (entC_at l k f h).2]
def zF : Ent := (⟨#[]⟩, 0)
def nwM (md : Md) (name : ByteArray) : Md := apM { md with files := md.files ++ [zF] } (⟨#[]⟩, name, md.files.length)
def aM0 (md : Md) (name data : ByteArray) : Int :=
  if md.down then 18 else if fileB name = false then 11 else if findM md.names name < 0 ∧ 64 ≤ md.names.length then 6 else if md.cap < usM md.files md.names + data.size then 33 else 0
def aMe (md : Md) (name data : ByteArray) : Int := if aM0 md name data = 0 then (if flB md then 32 else 0) else aM0 md name data
def aMx (md : Md) (name data : ByteArray) : Md :=
  if findM md.names name < 0 then { nwM (flS md) name with files := addM (nwM (flS md) name).files (flS md).files.length data }
  else { flS md with files := addM (flS md).files (findM md.names name).toNat data }
def aMs (md : Md) (name data : ByteArray) : Md := if aM0 md name data = 0 then aMx md name data else md
theorem usM_le {files : List Ent} (hs : ∀ f ∈ files, f.1.size ≤ 16777216) (l : List Ent) : usM files l ≤ 16777216 * l.length := by
  unfold usM
  induction l with
  | nil => exact Nat.zero_le _
  | cons a l ih =>
    simp only [List.map_cons, List.sum_cons, List.length_cons]
    have : ((files[a.2]?).map fun f => f.1.size).getD 0 ≤ 16777216 := by
      cases h : files[a.2]? with
      | none => exact Nat.zero_le _
      | some f => exact hs f (List.mem_of_getElem? h)
    omega
set_option maxRecDepth 100000 in
set_option maxHeartbeats 16000000 in
theorem appendM_any {w : World} {pm : Nat} {md : Md} (hM : MdAt w pm md) (hB : MB md) (name data : ByteArray) (hns : name.size ≤ 16777216) (hds : data.size ≤ 16777216) :
    Calls Try.prog 18 #[ptrV pm, .string name, .string data] w fun e w' => e = .returned (.int .i64 (aMe md name data)) ∧ MdAt w' pm (aMs md name data) ∧ w.grownBy w' (some pm) := by
  obtain ⟨i0, hi, hz0, hz1, hz2⟩ := info_parts info_fil
  have HM := Lib.hid hM
  have HBB := Lib.hid hB
  obtain ⟨vf, vn, vd, vp, h⟩ := hM
  obtain ⟨An, cn, en, _, _, _, _⟩ := h.n.slice
  subst en
  obtain ⟨c0, _, c2, _, c4, _, _⟩ := h.at7
  have HV := Lib.hid h
  have hnl := hB.nl
  have hfl := hB.fl
  have hpl := hB.pl
  have hlm := hB.lm
  have hcp := hB.cp
  have HI := Lib.hid (fun w => isName_any name w (by omega))
  obtain ⟨K, hK⟩ : ∃ K, findM md.names name = K := ⟨_, rfl⟩
  have HK := Lib.hid hK
  obtain ⟨ln, hln⟩ : ∃ n, md.names.length = n := ⟨_, rfl⟩
  have HLN := Lib.hid hln
  have hn2 := h.n
  rw [hln] at c4 hnl hn2
  have HFE := Lib.hid (findE_any hn2 hln (by omega) name)
  rw [hK] at HFE
  clear h hB hln hn2
  obtain ⟨dn, hdn⟩ : ∃ q, md.down = q := ⟨_, rfl⟩
  rw [hdn] at c2
  cases dn
  · obtain ⟨fb, hfb⟩ : ∃ b, fileB name = b := ⟨_, rfl⟩
    rw [hfb] at HI
    cases fb
    · have e0 : aM0 md name data = 11 := by unfold aM0; rw [if_neg (by rw [hdn]; decide), if_pos hfb]
      have HR := Lib.hid (show aMe md name data = 11 ∧ aMs md name data = md from ⟨by unfold aMe; rw [e0]; rfl, by unfold aMs; rw [e0]; rfl⟩)
      clear e0
      clear hdn hfb
      go_enter Try.func18, Try.ntmps18
      go_wp2_with fail
      refine HFE.out.mono ?_
      rintro e w2 ⟨rfl, rfl⟩
      go_wp2_with fail
      refine (HI.out _).mono ?_
      rintro e w2 ⟨rfl, rfl⟩
      go_wp2_with fail
      go_ret
      refine ⟨by rw [HR.out.1]; rfl, by rw [HR.out.2]; exact HM.out, World.grownBy.refl _ _⟩
    · by_cases hlim : K < 0 ∧ 64 ≤ ln
      · have e0 : aM0 md name data = 6 := by unfold aM0; rw [if_neg (by rw [hdn]; decide), if_neg (by rw [hfb]; decide), hK, HLN.out, if_pos hlim]
        have HR := Lib.hid (show aMe md name data = 6 ∧ aMs md name data = md from ⟨by unfold aMe; rw [e0]; rfl, by unfold aMs; rw [e0]; rfl⟩)
        clear e0
        have e1 : decide (K < 0) = true := decide_eq_true hlim.1
        have e2 : K < 0 := hlim.1
        have e3 : (64 : Int) ≤ (ln : Int) := by omega
        have e4 : decide ((64 : Int) ≤ (ln : Int)) = true := decide_eq_true e3
        clear hdn hfb hlim
        go_enter Try.func18, Try.ntmps18
        go_wp2_with fail
        refine HFE.out.mono ?_
        rintro e w2 ⟨rfl, rfl⟩
        go_wp2_with fail
        refine (HI.out _).mono ?_
        rintro e w2 ⟨rfl, rfl⟩
        go_wp2_with fail
        go_ret
        refine ⟨by rw [HR.out.1]; rfl, by rw [HR.out.2]; exact HM.out, World.grownBy.refl _ _⟩
      · obtain ⟨U, hU⟩ : ∃ n, usM md.files md.names = n := ⟨_, rfl⟩
        have hUl := usM_le (fun f hf => (HBB.out.sz f hf).1) md.names
        rw [hU, HLN.out] at hUl
        have e2' : IntKind.i64.wrap ((U : Int) + (data.size : Int)) = ((U + data.size : Nat) : Int) := by rw [show (U : Int) + (data.size : Int) = ((U + data.size : Nat) : Int) by omega]; exact IntWalk.i64_in _ (by omega)
        by_cases hful : md.cap < U + data.size
        · have e0 : aM0 md name data = 33 := by unfold aM0; rw [if_neg (by rw [hdn]; decide), if_neg (by rw [hfb]; decide), hK, HLN.out, if_neg hlim, hU, if_pos hful]
          have HR := Lib.hid (show aMe md name data = 33 ∧ aMs md name data = md from ⟨by unfold aMe; rw [e0]; rfl, by unfold aMs; rw [e0]; rfl⟩)
          clear e0
          have t9 : decide ((md.cap : Int) < ((U + data.size : Nat) : Int)) = true := decide_eq_true (by omega)
          by_cases hk0 : K < 0
          · have e1 : decide (K < 0) = true := decide_eq_true hk0
            have e3 : ¬ ((64 : Int) ≤ (ln : Int)) := fun h => hlim ⟨hk0, by omega⟩
            have e4 : decide ((64 : Int) ≤ (ln : Int)) = false := decide_eq_false e3
            clear hdn hfb hlim
            go_enter Try.func18, Try.ntmps18
            go_wp2_with fail
            refine HFE.out.mono ?_
            rintro e w2 ⟨rfl, rfl⟩
            go_wp2_with fail
            refine (HI.out _).mono ?_
            rintro e w2 ⟨rfl, rfl⟩
            go_wp2_with fail
            go_upto_region 8 with fail
            have HS := Lib.hid (fun w' (hb : Below w2.heap.size w2 w') => (show w'.cell? ⟨pm, 0, none⟩ = some (.int .i64 (md.cap : Nat)) from (HV.out.keep hb).at7.1))
            refine Till.begin 9 (fun w' => w'.cell? ⟨pm, 0, none⟩ = some (.int .i64 (md.cap : Nat))) (by kernel_rfl) (HS.out _ (Below.refl _ _).drew) (fun hH => ?_)
            clear hH
            have HB0 := Lib.hid (Below.refl w2.heap.size w2).drew
            generalize w2.drew = V0 at HB0 ⊢
            try simp only [List.setIfInBounds_toArray, List.set_cons_zero, List.set_cons_succ]
            refine Till.tL 0 [1, 4, 9] 36 (ptrV pm) (HS.out _ HB0.out) ?_
            try simp only [Act.put, List.setIfInBounds_toArray, List.set_cons_zero, List.set_cons_succ]
            refine Till.tL 2 [3, 4, 9] 38 (.string data) (HS.out _ HB0.out) ?_
            try simp only [Act.put, List.setIfInBounds_toArray, List.set_cons_zero, List.set_cons_succ]
            refine Till.tL 3 [4, 9] 39 (.int .i64 (data.size : Nat)) (HS.out _ HB0.out) ?_
            try simp only [Act.put, List.setIfInBounds_toArray, List.set_cons_zero, List.set_cons_succ]
            refine Till.tL 5 [6, 7, 8, 9] 41 (ptrV pm) (HS.out _ HB0.out) ?_
            try simp only [Act.put, List.setIfInBounds_toArray, List.set_cons_zero, List.set_cons_succ]
            refine Till.tL 6 [7, 8, 9] 42 (ptrV pm) (HS.out _ HB0.out) ?_
            try simp only [Act.put, List.setIfInBounds_toArray, List.set_cons_zero, List.set_cons_succ]
            refine Till.tL 7 [8, 9] 43 (.pointer (some ⟨pm, 0, none⟩)) (HS.out _ HB0.out) ?_
            try simp only [Act.put, List.setIfInBounds_toArray, List.set_cons_zero, List.set_cons_succ]
            refine Till.tL 8 [9] 44 (.int .i64 (md.cap : Nat)) (HS.out _ HB0.out) ?_
            try simp only [Act.put, List.setIfInBounds_toArray, List.set_cons_zero, List.set_cons_succ]
            refine Till.one (i := 1) (by kernel_rfl) rfl (fun KK hK => ?_)
            go_simp
            refine (usedM_any (HM.out.keep HB0.out) (by have := HLN.out; omega) (fun e he => ⟨_, List.getElem?_eq_getElem (HBB.out.ix e he), (HBB.out.sz _ (List.getElem_mem _)).1⟩)).mono ?_
            rintro e V1 ⟨rfl, hb⟩
            have HB9 := Lib.hid (below_on HB0.out hb)
            rw [hU]
            refine hK.out _ _ (fun _ => HS.out _ HB9.out) ?_
            clear hK hb
            try simp only [List.setIfInBounds_toArray, List.set_cons_zero, List.set_cons_succ]
            refine Till.one (i := 4) (by kernel_rfl) rfl (fun KK hK => ?_)
            go_simp
            refine hK.out _ _ (by first | exact fun _ => HS.out _ HB9.out | exact fun h => absurd h (by simp)) ?_
            clear hK
            try simp only [List.setIfInBounds_toArray, List.set_cons_zero, List.set_cons_succ]
            refine Till.one (i := 9) (by kernel_rfl) rfl (fun KK hK => ?_)
            go_simp
            refine hK.out _ _ (by first | exact fun _ => HS.out _ HB9.out | exact fun h => absurd h (by simp)) ?_
            clear hK
            try simp only [List.setIfInBounds_toArray, List.set_cons_zero, List.set_cons_succ]
            refine Till.one (i := 10) (by kernel_rfl) rfl (fun KK hK => ?_)
            go_simp
            refine hK.out _ _ (by first | exact fun _ => HS.out _ HB9.out | exact fun h => absurd h (by simp)) ?_
            clear hK
            try simp only [List.setIfInBounds_toArray, List.set_cons_zero, List.set_cons_succ]
            refine Till.done (by kernel_rfl) ?_ _
            go_wp2_with fail
            go_ret
            refine ⟨by rw [HR.out.1]; rfl, by rw [HR.out.2]; exact HM.out.keep HB9.out, gb_of HB9.out _⟩
          · have e1 : decide (K < 0) = false := decide_eq_false hk0
            clear hdn hfb hlim
            go_enter Try.func18, Try.ntmps18
            go_wp2_with fail
            refine HFE.out.mono ?_
            rintro e w2 ⟨rfl, rfl⟩
            go_wp2_with fail
            refine (HI.out _).mono ?_
            rintro e w2 ⟨rfl, rfl⟩
            go_wp2_with fail
            go_upto_region 8 with fail
            have HS := Lib.hid (fun w' (hb : Below w2.heap.size w2 w') => (show w'.cell? ⟨pm, 0, none⟩ = some (.int .i64 (md.cap : Nat)) from (HV.out.keep hb).at7.1))
            refine Till.begin 9 (fun w' => w'.cell? ⟨pm, 0, none⟩ = some (.int .i64 (md.cap : Nat))) (by kernel_rfl) (HS.out _ (Below.refl _ _).drew) (fun hH => ?_)
            clear hH
            have HB0 := Lib.hid (Below.refl w2.heap.size w2).drew
            generalize w2.drew = V0 at HB0 ⊢
            try simp only [List.setIfInBounds_toArray, List.set_cons_zero, List.set_cons_succ]
            refine Till.tL 0 [1, 4, 9] 36 (ptrV pm) (HS.out _ HB0.out) ?_
            try simp only [Act.put, List.setIfInBounds_toArray, List.set_cons_zero, List.set_cons_succ]
            refine Till.tL 2 [3, 4, 9] 38 (.string data) (HS.out _ HB0.out) ?_
            try simp only [Act.put, List.setIfInBounds_toArray, List.set_cons_zero, List.set_cons_succ]
            refine Till.tL 3 [4, 9] 39 (.int .i64 (data.size : Nat)) (HS.out _ HB0.out) ?_
            try simp only [Act.put, List.setIfInBounds_toArray, List.set_cons_zero, List.set_cons_succ]
            refine Till.tL 5 [6, 7, 8, 9] 41 (ptrV pm) (HS.out _ HB0.out) ?_
            try simp only [Act.put, List.setIfInBounds_toArray, List.set_cons_zero, List.set_cons_succ]
            refine Till.tL 6 [7, 8, 9] 42 (ptrV pm) (HS.out _ HB0.out) ?_
            try simp only [Act.put, List.setIfInBounds_toArray, List.set_cons_zero, List.set_cons_succ]
            refine Till.tL 7 [8, 9] 43 (.pointer (some ⟨pm, 0, none⟩)) (HS.out _ HB0.out) ?_
            try simp only [Act.put, List.setIfInBounds_toArray, List.set_cons_zero, List.set_cons_succ]
            refine Till.tL 8 [9] 44 (.int .i64 (md.cap : Nat)) (HS.out _ HB0.out) ?_
            try simp only [Act.put, List.setIfInBounds_toArray, List.set_cons_zero, List.set_cons_succ]
            refine Till.one (i := 1) (by kernel_rfl) rfl (fun KK hK => ?_)
            go_simp
            refine (usedM_any (HM.out.keep HB0.out) (by have := HLN.out; omega) (fun e he => ⟨_, List.getElem?_eq_getElem (HBB.out.ix e he), (HBB.out.sz _ (List.getElem_mem _)).1⟩)).mono ?_
            rintro e V1 ⟨rfl, hb⟩
            have HB9 := Lib.hid (below_on HB0.out hb)
            rw [hU]
            refine hK.out _ _ (fun _ => HS.out _ HB9.out) ?_
            clear hK hb
            try simp only [List.setIfInBounds_toArray, List.set_cons_zero, List.set_cons_succ]
            refine Till.one (i := 4) (by kernel_rfl) rfl (fun KK hK => ?_)
            go_simp
            refine hK.out _ _ (by first | exact fun _ => HS.out _ HB9.out | exact fun h => absurd h (by simp)) ?_
            clear hK
            try simp only [List.setIfInBounds_toArray, List.set_cons_zero, List.set_cons_succ]
            refine Till.one (i := 9) (by kernel_rfl) rfl (fun KK hK => ?_)
            go_simp
            refine hK.out _ _ (by first | exact fun _ => HS.out _ HB9.out | exact fun h => absurd h (by simp)) ?_
            clear hK
            try simp only [List.setIfInBounds_toArray, List.set_cons_zero, List.set_cons_succ]
            refine Till.one (i := 10) (by kernel_rfl) rfl (fun KK hK => ?_)
            go_simp
            refine hK.out _ _ (by first | exact fun _ => HS.out _ HB9.out | exact fun h => absurd h (by simp)) ?_
            clear hK
            try simp only [List.setIfInBounds_toArray, List.set_cons_zero, List.set_cons_succ]
            refine Till.done (by kernel_rfl) ?_ _
            go_wp2_with fail
            go_ret
            refine ⟨by rw [HR.out.1]; rfl, by rw [HR.out.2]; exact HM.out.keep HB9.out, gb_of HB9.out _⟩
        · have e0 : aM0 md name data = 0 := by unfold aM0; rw [if_neg (by rw [hdn]; decide), if_neg (by rw [hfb]; decide), hK, HLN.out, if_neg hlim, hU, if_neg hful]
          have t9 : decide ((md.cap : Int) < ((U + data.size : Nat) : Int)) = false := decide_eq_false (by omega)
          have t9' : ¬ ((md.cap : Int) < ((U + data.size : Nat) : Int)) := by omega
          obtain ⟨b, hb⟩ : ∃ b, flB md = b := ⟨_, rfl⟩
          have Hb := Lib.hid hb
          obtain ⟨r9, hr9⟩ : ∃ r : Int, (if b = true then (32 : Int) else 0) = r := ⟨_, rfl⟩
          have HR0 := Lib.hid (show aMe md name data = r9 ∧ aMs md name data = aMx md name data from ⟨by unfold aMe; rw [if_pos e0, hb, hr9], by unfold aMs; rw [if_pos e0]⟩)
          have Hsz0 := Lib.hid (fun f hf => (HBB.out.sz f hf).1)
          clear e0 hb
          by_cases hk0 : K < 0
          · have e1 : decide (K < 0) = true := decide_eq_true hk0
            have e3 : ¬ ((64 : Int) ≤ (ln : Int)) := fun h => hlim ⟨hk0, by omega⟩
            have e4 : decide ((64 : Int) ≤ (ln : Int)) = false := decide_eq_false e3
            have HR := Lib.hid (show aMe md name data = r9 ∧ aMs md name data = { nwM (flS md) name with files := addM (nwM (flS md) name).files (flS md).files.length data } from ⟨HR0.out.1, by rw [HR0.out.2]; unfold aMx; rw [hK, if_pos hk0]⟩)
            clear hdn hfb hlim hful
            go_enter Try.func18, Try.ntmps18
            go_wp2_with fail
            refine HFE.out.mono ?_
            rintro e w2 ⟨rfl, rfl⟩
            go_wp2_with fail
            refine (HI.out _).mono ?_
            rintro e w2 ⟨rfl, rfl⟩
            go_wp2_with fail
            go_upto_region 8 with fail
            have HS := Lib.hid (fun w' (hb : Below w2.heap.size w2 w') => (show w'.cell? ⟨pm, 0, none⟩ = some (.int .i64 (md.cap : Nat)) from (HV.out.keep hb).at7.1))
            refine Till.begin 9 (fun w' => w'.cell? ⟨pm, 0, none⟩ = some (.int .i64 (md.cap : Nat))) (by kernel_rfl) (HS.out _ (Below.refl _ _).drew) (fun hH => ?_)
            clear hH
            have HB0 := Lib.hid (Below.refl w2.heap.size w2).drew
            generalize w2.drew = V0 at HB0 ⊢
            try simp only [List.setIfInBounds_toArray, List.set_cons_zero, List.set_cons_succ]
            refine Till.tL 0 [1, 4, 9] 36 (ptrV pm) (HS.out _ HB0.out) ?_
            try simp only [Act.put, List.setIfInBounds_toArray, List.set_cons_zero, List.set_cons_succ]
            refine Till.tL 2 [3, 4, 9] 38 (.string data) (HS.out _ HB0.out) ?_
            try simp only [Act.put, List.setIfInBounds_toArray, List.set_cons_zero, List.set_cons_succ]
            refine Till.tL 3 [4, 9] 39 (.int .i64 (data.size : Nat)) (HS.out _ HB0.out) ?_
            try simp only [Act.put, List.setIfInBounds_toArray, List.set_cons_zero, List.set_cons_succ]
            refine Till.tL 5 [6, 7, 8, 9] 41 (ptrV pm) (HS.out _ HB0.out) ?_
            try simp only [Act.put, List.setIfInBounds_toArray, List.set_cons_zero, List.set_cons_succ]
            refine Till.tL 6 [7, 8, 9] 42 (ptrV pm) (HS.out _ HB0.out) ?_
            try simp only [Act.put, List.setIfInBounds_toArray, List.set_cons_zero, List.set_cons_succ]
            refine Till.tL 7 [8, 9] 43 (.pointer (some ⟨pm, 0, none⟩)) (HS.out _ HB0.out) ?_
            try simp only [Act.put, List.setIfInBounds_toArray, List.set_cons_zero, List.set_cons_succ]
            refine Till.tL 8 [9] 44 (.int .i64 (md.cap : Nat)) (HS.out _ HB0.out) ?_
            try simp only [Act.put, List.setIfInBounds_toArray, List.set_cons_zero, List.set_cons_succ]
            refine Till.one (i := 1) (by kernel_rfl) rfl (fun KK hK => ?_)
            go_simp
            refine (usedM_any (HM.out.keep HB0.out) (by have := HLN.out; omega) (fun e he => ⟨_, List.getElem?_eq_getElem (HBB.out.ix e he), (HBB.out.sz _ (List.getElem_mem _)).1⟩)).mono ?_
            rintro e V1 ⟨rfl, hb⟩
            have HB9 := Lib.hid (below_on HB0.out hb)
            rw [hU]
            refine hK.out _ _ (fun _ => HS.out _ HB9.out) ?_
            clear hK hb
            try simp only [List.setIfInBounds_toArray, List.set_cons_zero, List.set_cons_succ]
            refine Till.one (i := 4) (by kernel_rfl) rfl (fun KK hK => ?_)
            go_simp
            refine hK.out _ _ (by first | exact fun _ => HS.out _ HB9.out | exact fun h => absurd h (by simp)) ?_
            clear hK
            try simp only [List.setIfInBounds_toArray, List.set_cons_zero, List.set_cons_succ]
            refine Till.one (i := 9) (by kernel_rfl) rfl (fun KK hK => ?_)
            go_simp
            refine hK.out _ _ (by first | exact fun _ => HS.out _ HB9.out | exact fun h => absurd h (by simp)) ?_
            clear hK
            try simp only [List.setIfInBounds_toArray, List.set_cons_zero, List.set_cons_succ]
            refine Till.one (i := 10) (by kernel_rfl) rfl (fun KK hK => ?_)
            go_simp
            refine hK.out _ _ (by first | exact fun _ => HS.out _ HB9.out | exact fun h => absurd h (by simp)) ?_
            clear hK
            try simp only [List.setIfInBounds_toArray, List.set_cons_zero, List.set_cons_succ]
            refine Till.done (by kernel_rfl) ?_ _
            go_wp2_with fail
            have hq := fails_any (HM.out.keep HB9.out) ⟨hlm.2, hlm.1⟩
            rw [Hb.out] at hq
            refine hq.mono ?_
            rintro e w3 ⟨rfl, hm3, hg3⟩
            obtain ⟨M1, hM1⟩ : ∃ M, flS md = M := ⟨_, rfl⟩
            have hk1 := flS_keep md
            rw [hM1] at hm3 HR hk1
            have HK1 := Lib.hid hk1
            have HG3 := Lib.hid (grown_trans (gb_of HB9.out (some pm)) hg3)
            clear hq hg3 c0 c2 c4 hM1 hk1
            obtain ⟨vf, vn, vd, vp, h3⟩ := hm3
            have HM3 := Lib.hid h3
            clear h3
            have hB : M1.files.length ≤ 900 := by rw [HK1.out.1]; exact hfl
            have hal := (Below.refl w3.heap.size w3).alloc (Nat.le_refl _) (.cells #[] 73)
            have ha := HM3.out.keep hal
            obtain ⟨Af, cf, ef, _, _, _, _⟩ := HM3.out.f.slice
            subst ef
            obtain ⟨_, _, _, x3, _, _, _⟩ := ha.at7
            obtain ⟨_, _, _, x3', _, _, _⟩ := HM3.out.at7
            have y3 := ha.fz 3
            have HF := Lib.hid ha.f
            clear ha
            go_wp2_with (at_builtin; refine wpList_append_row rfl _ _ 30 rfl w3.heap.size 73 i0 _ 2 24 Try.underlying30 hi hz0 hz1 hz2 rfl (by decide) rfl (own_fresh w3 w3.heap.size 73 2 0 #[] rfl (Nat.zero_le _) (Nat.le_refl _)) rfl HF.out (entC_one _) ?n1 (by decide) ?n2 ?_)
            case n1 => show 0 + M1.files.length ≤ _; omega
            case n2 => exact size_le (Nat.le_refl _)
            intro v4 V4 ho hg
            have hb4 : Below w3.heap.size w3 V4 := hal.trans (below_row hg (fun k hk => own_ge (own_fresh w3 w3.heap.size 73 2 0 #[] rfl (Nat.zero_le _) (Nat.le_refl _)) hk) (size_le (Nat.le_refl _)))
            have HB4 := Lib.hid hb4
            have HO4 := Lib.hid ho
            clear x3 y3 x3' hb4 ho hg hal
            have h4 := HM3.out.keep HB4.out
            obtain ⟨_, _, _, x3, _, _, _⟩ := h4.at7
            have y3 := h4.fz 3
            clear h4
            go_wp2_with (at_builtin; refine wpList_append_row rfl _ _ 30 rfl w3.heap.size 73 i0 _ 2 24 Try.underlying30 hi hz0 hz1 hz2 rfl (by decide) rfl (HO4.out.alloc _) rfl (RowAt.fresh V4 73 2 1 #[.string ⟨#[]⟩, .int .i64 0] rfl (by decide)) ?o1 ?o2 (by decide) ?o3 ?_)
            case o1 => exact ⟨rfl, rfl⟩
            case o2 => show M1.files.length + 1 ≤ _; omega
            case o3 => exact size_le HB4.out.size
            intro v5 V5 ho hg
            have hb5 : Below w3.heap.size V4 V5 := ((Below.refl w3.heap.size V4).alloc HB4.out.size _).trans (below_row hg (fun k hk => own_ge HO4.out hk) (size_le HB4.out.size))
            have HB5 := Lib.hid (HB4.out.trans hb5)
            clear x3 y3 hb5 hg
            have h5 := HM3.out.keep HB5.out
            obtain ⟨_, _, _, x3, _, _, _⟩ := h5.at7
            have y3 := h5.fz 3
            obtain ⟨A5, c5', e5, _, _, _, _⟩ := own_row ho
            subst e5
            have hr5 := RowAt.of_own ho
            have hS := h5.set 3 (.slice A5 (M1.files.length + 1) c5') (md' := { M1 with files := M1.files ++ [zF] }) rfl (by rw [entC_app, List.length_append]; exact hr5) h5.n h5.d h5.p
            have HM6 := Lib.hid hS.1
            have HG6 := Lib.hid (grown_trans HG3.out (grown_trans (gb_of HB5.out (some pm)) hS.2))
            clear h5 hr5 ho hS
            go_wp2_with fail
            clear x3 y3
            have hnm1 : M1.names.length ≤ 1000 := by rw [HK1.out.2.1]; have := HLN.out; omega
            have hpm1 : M1.pend.length ≤ 1000 := by rw [HK1.out.2.2.2.1]; omega
            refine (apply_any ⟨_, _, _, _, HM6.out⟩ hnm1 hpm1 (⟨#[]⟩, name, M1.files.length)).mono ?_
            rintro e w7 ⟨⟨v7, rfl⟩, hm7, hg7⟩
            have HG7 := Lib.hid (grown_trans HG6.out hg7)
            obtain ⟨M2, hM2⟩ : ∃ M, nwM M1 name = M := ⟨_, rfl⟩
            have hm7 : MdAt w7 pm (nwM M1 name) := hm7
            have HF2 := Lib.hid (show M2.files = M1.files ++ [zF] by rw [← hM2]; rfl)
            rw [hM2] at hm7 HR
            obtain ⟨kk, hkk⟩ : ∃ n, M1.files.length = n := ⟨_, rfl⟩
            rw [hkk] at HR hB
            have hl2 : M2.files.length = kk + 1 := by rw [HF2.out, List.length_append, hkk]; rfl
            have Hpos := Lib.hid (show 0 < M2.files.length by omega)
            have Hk9 := Lib.hid (show kk < M2.files.length by omega)
            have Hsz := Lib.hid (show ∀ f ∈ M2.files, f.1.size ≤ 16777216 by
              rw [HF2.out, HK1.out.1]
              intro f hf
              rcases List.mem_append.1 hf with hf | hf
              · exact Hsz0.out f hf
              · rw [List.mem_singleton.1 hf]; exact Nat.zero_le _)
            have HK2 := Lib.hid hkk
            obtain ⟨vf, vn, vd, vp, h7⟩ := hm7
            have HM7 := Lib.hid h7
            rw [hkk]
            clear h7 hg7 hM2 hnm1 hpm1 HM6 HG6 HM3 HG3 HF HB4 HB5 HO4 hkk
            have hB2 : M2.files.length ≤ 901 := by omega
            clear hl2
            have hal := (Below.refl w7.heap.size w7).alloc (Nat.le_refl _) (.cells #[] 73)
            have ha := HM7.out.keep hal
            obtain ⟨Af, cf, ef, _, _, _, _⟩ := HM7.out.f.slice
            subst ef
            obtain ⟨_, _, _, x3, _, _, _⟩ := ha.at7
            have y3 := ha.fz 3
            have HF := Lib.hid ha.f
            have HA := Lib.hid ha
            clear ha
            go_wp2_with (at_builtin; refine wpList_append_row rfl _ _ 30 rfl w7.heap.size 73 i0 _ 2 24 Try.underlying30 hi hz0 hz1 hz2 rfl (by decide) rfl (own_fresh w7 w7.heap.size 73 2 0 #[] rfl (Nat.zero_le _) (Nat.le_refl _)) rfl HF.out (entC_one _) (by show 0 + M2.files.length ≤ 1000000; omega) (by decide) (size_le (Nat.le_refl _)) ?_)
            intro v4 V4 ho hg
            have hb4 : Below w7.heap.size w7 V4 := hal.trans (below_row hg (fun k hk => own_ge (own_fresh w7 w7.heap.size 73 2 0 #[] rfl (Nat.zero_le _) (Nat.le_refl _)) hk) (size_le (Nat.le_refl _)))
            have HB4 := Lib.hid hb4
            clear x3 y3
            have h4 := HM7.out.keep hb4
            obtain ⟨_, _, _, x3, _, _, _⟩ := h4.at7
            have y3 := h4.fz 3
            obtain ⟨A4, c4', e4, _, _, hA4, _⟩ := own_row ho
            subst e4
            obtain ⟨g4, e4⟩ := hA4 Hpos.out
            subst e4
            have hS := h4.set 3 (.slice (some ⟨g4, 0, none⟩) M2.files.length c4') (md' := M2) rfl (RowAt.of_own ho) h4.n h4.d h4.p
            have hgr := own_cells ho
            obtain ⟨hg1, hg2, ⟨cur4, hg3⟩, _, _⟩ := hgr
            have hne4 : g4 ≠ pm := fun e => by rw [e, h4.obj] at hg3; injection hg3 with hg3; injection hg3 with _ hg3; exact absurd hg3 (by decide)
            have hO := own_grown ho hS.2 (fun e => by injection e with e; exact hne4 e)
            have HM4 := Lib.hid hS.1
            have HO4 := Lib.hid hO
            have HG4 := Lib.hid (grown_trans HG7.out (grown_trans (gb_of hb4 (some pm)) hS.2))
            have Hgl := Lib.hid (Nat.le_trans HG7.out.size hg2)
            clear h4 hS hO ho hg hb4 hal hg1 hg2 hg3
            go_wp2_with fail
            clear x3 y3
            generalize (V4.setCell ⟨pm, 3, none⟩ (.slice (some ⟨g4, 0, none⟩) M2.files.length c4')) = W5 at HM4 HO4 HG4 ⊢
            obtain ⟨fx, hfx⟩ : ∃ f, M2.files[kk]? = some f := ⟨_, List.getElem?_eq_getElem Hk9.out⟩
            have hfs : fx.1.size ≤ 16777216 := Hsz.out fx (List.mem_of_getElem? hfx)
            have hcat : ¬ (9223372036854775807 < fx.1.size + data.size) := by omega
            have hoc := own_cells HO4.out
            have he := entC_at M2.files kk fx hfx
            have q0 := hoc.2.2.2.2 _ _ he.1
            have q1 := hoc.2.2.2.2 _ _ he.2
            have q2 := hoc.2.2.2.1 (kk * 2)
            obtain ⟨_, _, _, p3, _, _, _⟩ := HM4.out.at7
            have hkn2 : (kk : Int) < (M2.files.length : Int) := by have := Hk9.out; omega
            have hkn3 : kk < M2.files.length := Hk9.out
            have hp := own_put HO4.out (kk * 2) (.string (fx.1 ++ data))
            rw [← addM_C data hfx] at hp
            have hr := RowAt.of_own hp
            rw [← addM_len M2.files kk data] at hr
            have HFF := Lib.hid (HM4.out.files hoc.2.2.1 (by rw [addM_len] at hr ⊢; exact hr))
            have hgc := grown_cells g4 [.string (fx.1 ++ data)] (kk * 2) W5
            have e5 : W5.setCells g4 (kk * 2) [.string (fx.1 ++ data)] = W5.setCell ⟨g4, kk * 2, none⟩ (.string (fx.1 ++ data)) := rfl
            rw [e5] at hgc
            have HGF := Lib.hid (gb_fresh HG4.out hgc Hgl.out)
            clear hoc he hfx hp hr hgc e5 hfs
            go_region
            go_wp2_with fail
            have HO := Lib.hid (fun w => outcome_any b w)
            rw [hr9] at HO
            refine (HO.out _).mono ?_
            rintro e w9 ⟨rfl, rfl⟩
            go_wp2_with fail
            go_ret
            refine ⟨by rw [HR.out.1]; rfl, by rw [HR.out.2]; exact ⟨_, _, _, _, HFF.out.keep (Below.refl _ _).drew⟩, gb_drew HGF.out⟩
          · have e1 : decide (K < 0) = false := decide_eq_false hk0
            have HR := Lib.hid (show aMe md name data = r9 ∧ aMs md name data = { flS md with files := addM (flS md).files K.toNat data } from ⟨HR0.out.1, by rw [HR0.out.2]; unfold aMx; rw [hK, if_neg hk0]⟩)
            have HX := Lib.hid (show ∃ e ∈ md.names, K = (e.2 : Nat) by obtain ⟨e, he, h1, _⟩ := findM_in (by rw [hK]; exact hk0); exact ⟨e, he, by rw [← hK, h1]⟩)
            clear hdn hfb hlim hful
            go_enter Try.func18, Try.ntmps18
            go_wp2_with fail
            refine HFE.out.mono ?_
            rintro e w2 ⟨rfl, rfl⟩
            go_wp2_with fail
            refine (HI.out _).mono ?_
            rintro e w2 ⟨rfl, rfl⟩
            go_wp2_with fail
            go_upto_region 8 with fail
            have HS := Lib.hid (fun w' (hb : Below w2.heap.size w2 w') => (show w'.cell? ⟨pm, 0, none⟩ = some (.int .i64 (md.cap : Nat)) from (HV.out.keep hb).at7.1))
            refine Till.begin 9 (fun w' => w'.cell? ⟨pm, 0, none⟩ = some (.int .i64 (md.cap : Nat))) (by kernel_rfl) (HS.out _ (Below.refl _ _).drew) (fun hH => ?_)
            clear hH
            have HB0 := Lib.hid (Below.refl w2.heap.size w2).drew
            generalize w2.drew = V0 at HB0 ⊢
            try simp only [List.setIfInBounds_toArray, List.set_cons_zero, List.set_cons_succ]
            refine Till.tL 0 [1, 4, 9] 36 (ptrV pm) (HS.out _ HB0.out) ?_
            try simp only [Act.put, List.setIfInBounds_toArray, List.set_cons_zero, List.set_cons_succ]
            refine Till.tL 2 [3, 4, 9] 38 (.string data) (HS.out _ HB0.out) ?_
            try simp only [Act.put, List.setIfInBounds_toArray, List.set_cons_zero, List.set_cons_succ]
            refine Till.tL 3 [4, 9] 39 (.int .i64 (data.size : Nat)) (HS.out _ HB0.out) ?_
            try simp only [Act.put, List.setIfInBounds_toArray, List.set_cons_zero, List.set_cons_succ]
            refine Till.tL 5 [6, 7, 8, 9] 41 (ptrV pm) (HS.out _ HB0.out) ?_
            try simp only [Act.put, List.setIfInBounds_toArray, List.set_cons_zero, List.set_cons_succ]
            refine Till.tL 6 [7, 8, 9] 42 (ptrV pm) (HS.out _ HB0.out) ?_
            try simp only [Act.put, List.setIfInBounds_toArray, List.set_cons_zero, List.set_cons_succ]
            refine Till.tL 7 [8, 9] 43 (.pointer (some ⟨pm, 0, none⟩)) (HS.out _ HB0.out) ?_
            try simp only [Act.put, List.setIfInBounds_toArray, List.set_cons_zero, List.set_cons_succ]
            refine Till.tL 8 [9] 44 (.int .i64 (md.cap : Nat)) (HS.out _ HB0.out) ?_
            try simp only [Act.put, List.setIfInBounds_toArray, List.set_cons_zero, List.set_cons_succ]
            refine Till.one (i := 1) (by kernel_rfl) rfl (fun KK hK => ?_)
            go_simp
            refine (usedM_any (HM.out.keep HB0.out) (by have := HLN.out; omega) (fun e he => ⟨_, List.getElem?_eq_getElem (HBB.out.ix e he), (HBB.out.sz _ (List.getElem_mem _)).1⟩)).mono ?_
            rintro e V1 ⟨rfl, hb⟩
            have HB9 := Lib.hid (below_on HB0.out hb)
            rw [hU]
            refine hK.out _ _ (fun _ => HS.out _ HB9.out) ?_
            clear hK hb
            try simp only [List.setIfInBounds_toArray, List.set_cons_zero, List.set_cons_succ]
            refine Till.one (i := 4) (by kernel_rfl) rfl (fun KK hK => ?_)
            go_simp
            refine hK.out _ _ (by first | exact fun _ => HS.out _ HB9.out | exact fun h => absurd h (by simp)) ?_
            clear hK
            try simp only [List.setIfInBounds_toArray, List.set_cons_zero, List.set_cons_succ]
            refine Till.one (i := 9) (by kernel_rfl) rfl (fun KK hK => ?_)
            go_simp
            refine hK.out _ _ (by first | exact fun _ => HS.out _ HB9.out | exact fun h => absurd h (by simp)) ?_
            clear hK
            try simp only [List.setIfInBounds_toArray, List.set_cons_zero, List.set_cons_succ]
            refine Till.one (i := 10) (by kernel_rfl) rfl (fun KK hK => ?_)
            go_simp
            refine hK.out _ _ (by first | exact fun _ => HS.out _ HB9.out | exact fun h => absurd h (by simp)) ?_
            clear hK
            try simp only [List.setIfInBounds_toArray, List.set_cons_zero, List.set_cons_succ]
            refine Till.done (by kernel_rfl) ?_ _
            go_wp2_with fail
            have hq := fails_any (HM.out.keep HB9.out) ⟨hlm.2, hlm.1⟩
            rw [Hb.out] at hq
            refine hq.mono ?_
            rintro e w3 ⟨rfl, hm3, hg3⟩
            obtain ⟨M1, hM1⟩ : ∃ M, flS md = M := ⟨_, rfl⟩
            have hk1 := flS_keep md
            rw [hM1] at hm3 HR hk1
            have HK1 := Lib.hid hk1
            have HG3 := Lib.hid (grown_trans (gb_of HB9.out (some pm)) hg3)
            clear hq hg3 c0 c2 c4 hM1 hk1
            obtain ⟨vf, vn, vd, vp, h3⟩ := hm3
            have HM3 := Lib.hid h3
            clear h3
            obtain ⟨k, e9, hk9⟩ : ∃ k : Nat, K = (k : Nat) ∧ k < M1.files.length := by
              obtain ⟨e, he, h1⟩ := HX.out
              exact ⟨e.2, h1, by rw [HK1.out.1]; exact HBB.out.ix e he⟩
            subst e9
            have Hpos := Lib.hid (show 0 < M1.files.length by omega)
            have Hk9 := Lib.hid hk9
            have Hsz := Lib.hid (show ∀ f ∈ M1.files, f.1.size ≤ 16777216 by rw [HK1.out.1]; exact Hsz0.out)
            have hB : M1.files.length ≤ 900 := by rw [HK1.out.1]; exact hfl
            clear hk9 hk0 e1
            have hal := (Below.refl w3.heap.size w3).alloc (Nat.le_refl _) (.cells #[] 73)
            have ha := HM3.out.keep hal
            obtain ⟨Af, cf, ef, _, _, _, _⟩ := HM3.out.f.slice
            subst ef
            obtain ⟨_, _, _, x3, _, _, _⟩ := ha.at7
            have y3 := ha.fz 3
            have HF := Lib.hid ha.f
            have HA := Lib.hid ha
            clear ha
            go_wp2_with (at_builtin; refine wpList_append_row rfl _ _ 30 rfl w3.heap.size 73 i0 _ 2 24 Try.underlying30 hi hz0 hz1 hz2 rfl (by decide) rfl (own_fresh w3 w3.heap.size 73 2 0 #[] rfl (Nat.zero_le _) (Nat.le_refl _)) rfl HF.out (entC_one _) (by show 0 + M1.files.length ≤ 1000000; omega) (by decide) (size_le (Nat.le_refl _)) ?_)
            intro v4 V4 ho hg
            have hb4 : Below w3.heap.size w3 V4 := hal.trans (below_row hg (fun k hk => own_ge (own_fresh w3 w3.heap.size 73 2 0 #[] rfl (Nat.zero_le _) (Nat.le_refl _)) hk) (size_le (Nat.le_refl _)))
            have HB4 := Lib.hid hb4
            clear x3 y3
            have h4 := HM3.out.keep hb4
            obtain ⟨_, _, _, x3, _, _, _⟩ := h4.at7
            have y3 := h4.fz 3
            obtain ⟨A4, c4', e4, _, _, hA4, _⟩ := own_row ho
            subst e4
            obtain ⟨g4, e4⟩ := hA4 Hpos.out
            subst e4
            have hS := h4.set 3 (.slice (some ⟨g4, 0, none⟩) M1.files.length c4') (md' := M1) rfl (RowAt.of_own ho) h4.n h4.d h4.p
            have hgr := own_cells ho
            obtain ⟨hg1, hg2, ⟨cur4, hg3⟩, _, _⟩ := hgr
            have hne4 : g4 ≠ pm := fun e => by rw [e, h4.obj] at hg3; injection hg3 with hg3; injection hg3 with _ hg3; exact absurd hg3 (by decide)
            have hO := own_grown ho hS.2 (fun e => by injection e with e; exact hne4 e)
            have HM4 := Lib.hid hS.1
            have HO4 := Lib.hid hO
            have HG4 := Lib.hid (grown_trans HG3.out (grown_trans (gb_of hb4 (some pm)) hS.2))
            have Hgl := Lib.hid (Nat.le_trans HG3.out.size hg2)
            clear h4 hS hO ho hg hb4 hal hg1 hg2 hg3
            go_wp2_with fail
            clear x3 y3
            generalize (V4.setCell ⟨pm, 3, none⟩ (.slice (some ⟨g4, 0, none⟩) M1.files.length c4')) = W5 at HM4 HO4 HG4 ⊢
            obtain ⟨fx, hfx⟩ : ∃ f, M1.files[k]? = some f := ⟨_, List.getElem?_eq_getElem Hk9.out⟩
            have hfs : fx.1.size ≤ 16777216 := Hsz.out fx (List.mem_of_getElem? hfx)
            have hcat : ¬ (9223372036854775807 < fx.1.size + data.size) := by omega
            have hoc := own_cells HO4.out
            have he := entC_at M1.files k fx hfx
            have q0 := hoc.2.2.2.2 _ _ he.1
            have q1 := hoc.2.2.2.2 _ _ he.2
            have q2 := hoc.2.2.2.1 (k * 2)
            obtain ⟨_, _, _, p3, _, _, _⟩ := HM4.out.at7
            have hkn2 : (k : Int) < (M1.files.length : Int) := by have := Hk9.out; omega
            have hkn3 : k < M1.files.length := Hk9.out
            have hp := own_put HO4.out (k * 2) (.string (fx.1 ++ data))
            rw [← addM_C data hfx] at hp
            have hr := RowAt.of_own hp
            rw [← addM_len M1.files k data] at hr
            have HFF := Lib.hid (HM4.out.files hoc.2.2.1 (by rw [addM_len] at hr ⊢; exact hr))
            have hgc := grown_cells g4 [.string (fx.1 ++ data)] (k * 2) W5
            have e5 : W5.setCells g4 (k * 2) [.string (fx.1 ++ data)] = W5.setCell ⟨g4, k * 2, none⟩ (.string (fx.1 ++ data)) := rfl
            rw [e5] at hgc
            have HGF := Lib.hid (gb_fresh HG4.out hgc Hgl.out)
            clear hoc he hfx hp hr hgc e5 hfs
            go_region
            go_wp2_with fail
            have HO := Lib.hid (fun w => outcome_any b w)
            rw [hr9] at HO
            refine (HO.out _).mono ?_
            rintro e w9 ⟨rfl, rfl⟩
            go_wp2_with fail
            go_ret
            refine ⟨by rw [HR.out.1]; rfl, by rw [HR.out.2]; rw [Int.toNat_natCast]; exact ⟨_, _, _, _, HFF.out.keep (Below.refl _ _).drew⟩, gb_drew HGF.out⟩
  · have e0 : aM0 md name data = 18 := by unfold aM0; rw [if_pos hdn]
    have HR := Lib.hid (show aMe md name data = 18 ∧ aMs md name data = md from ⟨by unfold aMe; rw [e0]; rfl, by unfold aMs; rw [e0]; rfl⟩)
    clear e0
    clear hdn
    go_enter Try.func18, Try.ntmps18
    go_wp2_with fail
    refine HFE.out.mono ?_
    rintro e w2 ⟨rfl, rfl⟩
    go_wp2_with fail
    go_ret
    refine ⟨by rw [HR.out.1]; rfl, by rw [HR.out.2]; exact HM.out, World.grownBy.refl _ _⟩
end Go.Proofs.Ytbmogecnepgnaaa
