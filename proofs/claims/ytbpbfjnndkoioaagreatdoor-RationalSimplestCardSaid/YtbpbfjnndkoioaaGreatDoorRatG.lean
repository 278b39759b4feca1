/- The reference of rationals: Parts and Text. -/
import Derived.Test.YtbpbfjnndkoioaaGreatDoorRatB
import Derived.Test.YtbpbfjnndkoioaaGreatDoorRefC
namespace Go.Proofs.YtbpbfjnndkoioaaGreatDoor
open Go.RowKit

theorem txt_plain (z : Int) : ∀ c ∈ (txt z).data.toList, c ≠ 47 := by
  by_cases h : z = 0
  · subst h
    rw [txt_zero]
    intro c hc
    have : c = 48 := by simpa using hc
    rw [this]; decide
  · rw [txt_ne h, nums_data]
    intro c hc
    obtain ⟨n, hn, rfl⟩ := List.mem_map.1 hc
    rcases List.mem_append.1 hn with hn | hn
    · split at hn
      · rw [List.mem_singleton.1 hn]; decide
      · cases hn
    · obtain ⟨d, hd, rfl⟩ := List.mem_map.1 hn
      have hdm := dig_digN z.natAbs d (List.mem_reverse.1 hd)
      intro e
      have e2 := congrArg UInt8.toNat e
      rw [UInt8.toNat_ofNat'] at e2
      simp at e2
      omega
set_option maxHeartbeats 1000000 in
theorem slash_any (s : ByteArray) (k : Nat) (w : World) (hs : s.size ≤ 9223372036854775807) (hk : k ≤ s.size) (hno : ∀ j c, j < k → s.data.toList[j]? = some c → c ≠ 47) (hat : ∀ c, s.data.toList[k]? = some c → c = 47) :
    Calls Tryz.prog 46 #[.string s] w fun e w' => e = .returned (.int .i64 (k : Nat)) ∧ w = w' := by
  have Hno := Lib.hid hno
  have Hat := Lib.hid hat
  clear hno hat
  go_enter Tryz.func46, Tryz.ntmps46
  go_wp2_with fail
  go_loop [3] (fun i => ∃ j : Nat, j ≤ k ∧ i = .int .i64 j) (fun i => s.size - (intOf i).toNat)
  case atStart => exact ⟨0, Nat.zero_le _, rfl⟩
  case round =>
    obtain ⟨j, hj, rfl⟩ := hrel
    by_cases hlt : j < k
    · have hjs : j < s.size := by omega
      have hne := Hno.out j s[j] hlt (str_at hjs)
      obtain ⟨x, hx⟩ : ∃ x, (s[j]).toNat = x := ⟨_, rfl⟩
      have t0 : ((x : Int) == 47) = false := by
        rw [beq_eq_false_iff_ne]
        intro e
        apply hne
        apply UInt8.toNat_inj.1
        rw [hx]
        show x = 47
        omega
      clear hne
      go_wp2
      go_round
      case rel => exact ⟨j + 1, by omega, by go_num⟩
      case measure => simp [intOf]; omega
    · obtain rfl : j = k := by omega
      by_cases hjs : j < s.size
      · have he := Hat.out s[j] (str_at hjs)
        have hx : (s[j]).toNat = 47 := by rw [he]; rfl
        clear he
        go_wp2
        go_ret
        exact ⟨rfl, rfl⟩
      · have e : j = s.size := by omega
        have He := Lib.hid e
        clear e
        go_wp2
        go_ret
        exact ⟨by rw [He.out]; rfl, rfl⟩
theorem cut_left (T U : ByteArray) : (T ++ ⟨#[47]⟩ ++ U).extract 0 T.size = T := by
  apply ByteArray.ext
  simp [ByteArray.data_append, ByteArray.data_extract]
theorem cut_right (T U : ByteArray) : (T ++ ⟨#[47]⟩ ++ U).extract (T.size + 1) (T ++ ⟨#[47]⟩ ++ U).size = U := by
  apply ByteArray.ext
  apply Array.toList_inj.1
  rw [extract_data]
  have e : (T ++ ⟨#[47]⟩ ++ U).data.toList = (T.data.toList ++ [47]) ++ U.data.toList := by simp [ByteArray.data_append]
  rw [e]
  exact List.drop_left' (by rw [List.length_append, str_len]; rfl)
set_option maxHeartbeats 2000000 in
theorem parts_int (z : Int) (w : World) (hs : (txt z).size ≤ 5000) :
    Calls Tryz.prog 24 #[.string (txt z)] w fun e w' => e = .returned (.tuple #[.string (txt z), .string ⟨#[49]⟩]) ∧ w = w' := by
  have HS := Lib.hid (fun w => slash_any (txt z) (txt z).size w (by omega) (Nat.le_refl _) (fun j c _ h => txt_plain z c (List.mem_of_getElem? h)) (fun c h => by
    rw [List.getElem?_eq_none (by rw [str_len]; exact Nat.le_refl _)] at h; cases h))
  obtain ⟨S, hS⟩ : ∃ S, txt z = S := ⟨_, rfl⟩
  rw [hS] at HS hs ⊢
  clear hS
  go_enter Tryz.func24, Tryz.ntmps24
  go_wp2_with fail
  refine (HS.out _).mono ?_
  rintro e w1 ⟨rfl, rfl⟩
  go_wp2
  go_ret2
  exact ⟨rfl, rfl⟩
set_option maxHeartbeats 2000000 in
theorem parts_frac (n d : Int) (w : World) (hs : (txt n).size ≤ 5000) (ht : (txt d).size ≤ 5000) :
    Calls Tryz.prog 24 #[.string (txt n ++ ⟨#[47]⟩ ++ txt d)] w fun e w' => e = .returned (.tuple #[.string (txt n), .string (txt d)]) ∧ Below w.heap.size w w' := by
  have hsz : (txt n ++ ⟨#[47]⟩ ++ txt d).size = (txt n).size + 1 + (txt d).size := by rw [ByteArray.size_append, ByteArray.size_append]; rfl
  have hdata : (txt n ++ ⟨#[47]⟩ ++ txt d).data.toList = (txt n).data.toList ++ 47 :: (txt d).data.toList := by simp [ByteArray.data_append]
  have HS := Lib.hid (fun w => slash_any (txt n ++ ⟨#[47]⟩ ++ txt d) (txt n).size w (by omega) (by omega) (fun j c hj h => by
    rw [hdata, List.getElem?_append_left (by rw [str_len]; exact hj)] at h
    exact txt_plain n c (List.mem_of_getElem? h)) (fun c h => by
    rw [hdata, List.getElem?_append_right (by rw [str_len]; exact Nat.le_refl _), str_len, Nat.sub_self] at h
    simpa using h.symm))
  have hl := cut_left (txt n) (txt d)
  have hr := cut_right (txt n) (txt d)
  obtain ⟨T, hT⟩ : ∃ T, txt n = T := ⟨_, rfl⟩
  obtain ⟨U, hU⟩ : ∃ U, txt d = U := ⟨_, rfl⟩
  rw [hT, hU] at hl hr hsz HS
  rw [hT] at hs
  rw [hU] at ht
  rw [hT, hU]
  obtain ⟨S, hS⟩ : ∃ S, T ++ ⟨#[47]⟩ ++ U = S := ⟨_, rfl⟩
  rw [hS] at hl hr hsz HS ⊢
  have hle : T.size ≤ S.size := by omega
  have hle1 : T.size + 1 ≤ S.size := by omega
  have hS5 : S.size ≤ 10001 := by omega
  have t0 : ((T.size : Int) == (S.size : Int)) = false := by rw [beq_eq_false_iff_ne]; omega
  have Hl := Lib.hid hl
  have Hr := Lib.hid hr
  clear hdata hT hU hS hsz
  go_enter Tryz.func24, Tryz.ntmps24
  go_wp2_with fail
  refine (HS.out _).mono ?_
  rintro e w1 ⟨rfl, rfl⟩
  go_wp2_with fail
  go_region
  all_goals
    go_wp2
    go_ret2
    exact ⟨rfl, (Below.refl _ _).drew⟩
/-- Parts of the text of a rational. -/
theorem refParts_any (q : Rat) (w : World) (hs : (txt q.num).size ≤ 5000) (ht : (txt (q.den : Int)).size ≤ 5000) :
    Calls Tryz.prog 24 #[.string (ratTxt q)] w fun e w' => e = .returned (.tuple #[.string (txt q.num), .string (txt (q.den : Int))]) ∧ Below w.heap.size w w' := by
  unfold ratTxt
  by_cases h : q.den = 1
  · rw [if_pos h, h]
    refine (parts_int q.num w hs).mono ?_
    rintro e w' ⟨rfl, rfl⟩
    exact ⟨by rw [show txt ((1 : Nat) : Int) = ⟨#[49]⟩ from txt_1], Below.refl _ _⟩
  · rw [if_neg h]
    exact parts_frac q.num q.den w hs ht
end Go.Proofs.YtbpbfjnndkoioaaGreatDoor
