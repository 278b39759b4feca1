/- DiskPrefix: the walk. -/
import Derived.Test.YtbmogecnepgnaaaDbe
import Derived.Test.YtbmogecnepgnaaaDbb
import Derived.Test.YtbmogecnepgnaaaDbc
import Derived.BigQuiet
namespace Go.Proofs.Ytbmogecnepgnaaa
open Go.RowKit Go.Maps Go.Shelf
theorem cat_data (a x : ByteArray) : (a ++ x).data.toList = a.data.toList ++ x.data.toList := by simp [ByteArray.data_append]
theorem cat_size (a x : ByteArray) : (a ++ x).size = a.size + x.size := by simp
theorem len_size (a : ByteArray) : a.data.toList.length = a.size := rfl
theorem at_getD (a : ByteArray) (n : Nat) (h : n < a.size) : (a[n]).toNat = (a.data.toList.getD n 0).toNat := by
  rw [List.getD_eq_getElem?_getD, List.getElem?_eq_getElem (by exact h)]
  rfl
theorem sub255 (x : UInt8) : (255 - x).toNat = 255 - x.toNat := by
  have h : ∀ n, n < 256 → (255 - UInt8.ofNat n).toNat = 255 - n := by decide +kernel
  have := h x.toNat x.toNat_lt
  rwa [UInt8.ofNat_toNat] at this
theorem below_dn {B : Nat} {w w' : World} (h : Below B w w') (n : Nat) : Below B w (w'.drewN n) := by
  induction n with
  | zero => exact h
  | succ n ih => exact ih.drew
theorem u8_in : ∀ n : Nat, n < 256 → IntKind.u8.wrap (n : Int) = (n : Int) := by decide +kernel
set_option maxRecDepth 100000 in
set_option maxHeartbeats 16000000 in
theorem prefix_any {A sA : Option Addr} {n c q sn sc : Nat} {l : List ByteArray} {li : List Int} {w : World} (hn : l.length = n) (hA : StrL w A l) (hq : q < 256) (hl : li.length = sn) (hIL : IntL w sA li) (hbd : ∀ k ∈ li, -9223372036854775808 ≤ k ∧ k ≤ 9223372036854775807) :
    Calls Try.prog 7 #[.slice A n c, .int .u8 (q : Nat), .slice sA sn sc] w fun e w' => e = .returned (.bool true) ∧ Below w.heap.size w w' := by
  have HA := Lib.hid hA
  have HN := Lib.hid hn
  have HI := Lib.hid (⟨hl, hIL, hbd⟩ : li.length = sn ∧ IntL w sA li ∧ ∀ k ∈ li, -9223372036854775808 ≤ k ∧ k ≤ 9223372036854775807)
  clear hA hn hl hIL hbd
  go_enter Try.func7, Try.ntmps7
  go_wp2_with fail
  refine (known_true w).mono ?_
  rintro e w2 ⟨rfl, hb⟩
  have HK2 := Lib.hid hb
  clear hb
  by_cases h1 : 10 < n
  · have j1 : (10 : Int) < (n : Int) := by omega
    go_wp2_with fail
    refine (known_true w2).mono ?_
    rintro e w3 ⟨rfl, hb⟩
    have HK3 := Lib.hid (below_on HK2.out hb)
    clear hb
    go_wp2_with fail
    go_ret
    exact ⟨rfl, HK3.out⟩
  have j1 : ¬ (10 : Int) < (n : Int) := by omega
  by_cases h2 : 12 < sn
  · have j2 : (12 : Int) < (sn : Int) := by omega
    go_wp2_with fail
    refine (known_true w2).mono ?_
    rintro e w3 ⟨rfl, hb⟩
    have HK3 := Lib.hid (below_on HK2.out hb)
    clear hb
    go_wp2_with fail
    go_ret
    exact ⟨rfl, HK3.out⟩
  have j2 : ¬ (12 : Int) < (sn : Int) := by omega
  go_wp2_with fail
  refine (new_ok 600 (by decide) w2).mono ?_
  rintro e w3 ⟨p, m, rfl, hD, hm1, hm2, hb⟩
  have HD0 := Lib.hid (Disk.of (c := 0) hD (newL (by decide)) (by omega) (by omega) (by rw [hm2]; exact Nat.le_refl _))
  have HB0 := Lib.hid hb
  clear hD hm1 hm2 hb
  go_wp2_with fail
  have hq1 := append_any HD0.out (by decide) bA ⟨#[]⟩ (by decide) (by decide)
  rw [(p1 0).1] at hq1
  refine hq1.mono ?_
  rintro e w4 ⟨b, rfl, hD, _, hb⟩
  rw [(p1 b).2] at hD
  have HD1 := Lib.hid hD
  have HB1 := Lib.hid (HB0.out.trans hb)
  clear hD hb hq1 HD0 HB0
  go_wp2_with fail
  have hq1 := publish_any HD1.out
  rw [(p2 b).1, (p2 b).2] at hq1
  refine hq1.mono ?_
  rintro e we ⟨rfl, hD, hb⟩
  have HD3 := Lib.hid (show Disk we w2.heap.size p (PS b false (⟨#[]⟩ : ByteArray).data.toList 0) 1 from hD)
  have HB3 := Lib.hid (HB1.out.trans hb)
  clear hD hb hq1 HD1 HB1
  go_wp2_with fail
  go_loopw [9, 10, 11] (fun a d i wr => ∃ (j : Nat) (al : ByteArray) (dd : Nat), a = .string al ∧ d = .int .i64 (dd : Nat) ∧ i = .int .i64 (j : Nat) ∧ j ≤ n ∧ al.size ≤ 50 * j ∧ dd ≤ al.size ∧ Disk wr w2.heap.size p (PS b false al.data.toList dd) (j + 1) ∧ Below w2.heap.size w2 wr) (fun _ _ i _ => n - (intOf i).toNat)
  case atStart => exact ⟨0, ⟨#[]⟩, 0, rfl, rfl, rfl, Nat.zero_le _, Nat.zero_le _, Nat.zero_le _, HD3.out, HB3.out⟩
  case round =>
    obtain ⟨j, al, dd, rfl, rfl, rfl, hj, hal, hdd, hD, hB⟩ := hrel
    have HD := Lib.hid hD
    have HB := Lib.hid hB
    clear hD hB
    by_cases hlt : j < n
    · have i1 : (j : Int) < (n : Int) := by omega
      have i2 : IntKind.i64.wrap ((j : Int) + 1) = (j : Int) + 1 := IntWalk.i64_in _ (by omega)
      obtain ⟨x, hx⟩ : ∃ x, l[j]? = some x := ⟨_, List.getElem?_eq_getElem (by have := HN.out; omega)⟩
      obtain ⟨g, off, e, _, z0⟩ := (HA.out.keep (below_on HK2.out HB.out)) j x hx
      subst e
      have HX := Lib.hid hx
      clear hx
      by_cases h3 : 50 < x.size
      · have j3 : (50 : Int) < (x.size : Int) := by omega
        go_wp2_with fail
        go_ret
        exact ⟨rfl, (below_on HK2.out HB.out)⟩
      · have j3 : ¬ (50 : Int) < (x.size : Int) := by omega
        have hcat : al.size + x.size ≤ maxLen := by unfold maxLen; omega
        obtain ⟨k, hk⟩ : ∃ k, q % 11 = k := ⟨_, rfl⟩
        have e1 : IntKind.i64.wrap (q : Int) = (q : Int) := IntWalk.i64_in _ (by omega)
        have e2 : (q : Int).tmod 11 = (k : Nat) := by rw [← hk]; exact (Int.ofNat_tmod q 11).symm
        have e3 : IntKind.i64.wrap (k : Int) = (k : Int) := IntWalk.i64_in _ (by omega)
        clear hk
        by_cases h4 : j < k
        · have i4 : (j : Int) < (k : Int) := by omega
          go_wp2_with fail
          have hq1 := append_any HD.out (by omega) bA x (by decide) (by omega)
          rw [(p3 b 0 al.data.toList dd x (by rw [len_size]; omega)).1] at hq1
          refine hq1.mono ?_
          rintro e w5 ⟨b2, rfl, hD, _, hb⟩
          rw [(p3 b b2 al.data.toList dd x (by rw [len_size]; omega)).2] at hD
          have HD5 := Lib.hid hD
          have HB5 := Lib.hid (HB.out.trans hb)
          clear z0
          obtain ⟨g', off', e', _, z0⟩ := (HA.out.keep (below_on HK2.out HB5.out)) j x HX.out
          injection e' with e'
          injection e' with e1' e2' _
          subst e1' e2'
          clear hD hb hq1
          go_wp2_with fail
          have hq1 := sync_any HD5.out bA (by decide)
          rw [(p4 b _ dd).1, (p4 b _ dd).2] at hq1
          refine hq1.mono ?_
          rintro e w6 ⟨rfl, hD, hb⟩
          have HD6 := Lib.hid hD
          have HB6 := Lib.hid (HB5.out.trans hb)
          clear hD hb hq1
          go_wp2_with fail
          go_roundw
          case rel => exact ⟨j + 1, al ++ x, al.size + x.size, rfl, rfl, by go_num, by omega, by rw [cat_size]; omega, by rw [cat_size]; exact Nat.le_refl _, by rw [cat_data]; have h9 := HD6.out; rw [List.length_append, len_size, len_size] at h9; exact h9, HB6.out⟩
          case measure => simp [intOf]; omega
        · have i4 : ¬ (j : Int) < (k : Int) := by omega
          go_wp2_with fail
          have hq1 := append_any HD.out (by omega) bA x (by decide) (by omega)
          rw [(p3 b 0 al.data.toList dd x (by rw [len_size]; omega)).1] at hq1
          refine hq1.mono ?_
          rintro e w5 ⟨b2, rfl, hD, _, hb⟩
          rw [(p3 b b2 al.data.toList dd x (by rw [len_size]; omega)).2] at hD
          have HD5 := Lib.hid hD
          have HB5 := Lib.hid (HB.out.trans hb)
          clear z0
          obtain ⟨g', off', e', _, z0⟩ := (HA.out.keep (below_on HK2.out HB5.out)) j x HX.out
          injection e' with e'
          injection e' with e1' e2' _
          subst e1' e2'
          clear hD hb hq1
          go_wp2_with fail
          go_roundw
          case rel => exact ⟨j + 1, al ++ x, dd, rfl, rfl, by go_num, by omega, by rw [cat_size]; omega, by rw [cat_size]; omega, by rw [cat_data]; exact HD5.out, HB5.out⟩
          case measure => simp [intOf]; omega
    · have i1 : ¬ (j : Int) < (n : Int) := by omega
      go_wp2_with fail
      refine (crash_any HD.out).mono ?_
      rintro e wf ⟨⟨v, rfl⟩, hD, hb⟩
      have hD : Disk wf _ p (PS b true al.data.toList dd) _ := hD
      have HBf := Lib.hid (HB.out.trans hb)
      have h8 := start_any hD (by omega) rfl (cl := sc) (HI.out.2.1.keep (below_on HK2.out HBf.out)) (fun b' o' t' z e => by
        obtain ⟨y, hy⟩ : ∃ y, li[0]? = some y := by
          cases li with
          | nil => exact absurd rfl z
          | cons a r => exact ⟨a, rfl⟩
        obtain ⟨b2, o2, e2, hl2, _⟩ := HI.out.2.1 0 y hy
        rw [e] at e2
        injection e2 with e2
        injection e2 with e3 _ _
        have h10 := HK2.out.size
        have h11 := HBf.out.size
        exact ⟨by omega, .inl (by omega)⟩) HI.out.1 HI.out.2.2
      have H8 := Lib.hid h8
      clear h8 hD hb
      go_wp2_with fail
      refine H8.out.mono ?_
      rintro e wg ⟨⟨v9, rfl⟩, ⟨ss, hp, _, hD⟩, hb⟩
      rw [p5 b _ dd hp] at hD
      obtain ⟨R, hR⟩ : ∃ R, failB li 1 ⟨b, al.data.toList, dd⟩ = R := ⟨_, rfl⟩
      obtain ⟨K, hK1, hK2, hK3, hK4⟩ := pfx li b al.data.toList dd hdd R hR
      rw [hR] at hD
      have HD9 := Lib.hid hD
      have HB9 := Lib.hid (HBf.out.trans hb)
      clear hD hb H8 HBf hR hp
      go_wp2_with fail
      have h10 := read_any HD9.out bA (by decide)
      rw [(p6 b R _).1, (p6 b R _).2] at h10
      refine h10.mono ?_
      rintro e wh ⟨rfl, rfl⟩
      clear h10
      obtain ⟨r, hr⟩ : ∃ r : ByteArray, (⟨R.toArray⟩ : ByteArray) = r := ⟨_, rfl⟩
      have hrl : R = r.data.toList := by rw [← hr]
      rw [hr]
      subst hrl
      rw [len_size] at hK1 hK2
      clear hr
      have u1 : ¬ ((r.size : Int) < (dd : Int)) := by omega
      have u2 : ¬ ((al.size : Int) < (r.size : Int)) := by omega
      by_cases hK0 : K = 0
      · have u3 : r.size = dd := by omega
        have u4 : IntKind.i64.wrap ((r.size : Int) - 1) = (r.size : Int) - 1 := IntWalk.i64_in _ (by omega)
        have u5 : max (dd : Int) ((r.size : Int) - 1) = (dd : Int) := by omega
        have u6 : ((r.extract 0 dd).toList == (al.extract 0 dd).toList) = true := by rw [ext_list, ext_list, hK3 hK0]; exact beq_self_eq_true _
        have u7 : ((r.size : Int) == (dd : Int)) = true := by rw [beq_iff_eq]; omega
        have u8 : dd ≤ r.size := by omega
        clear hK3 hK4 u3 hK0 hK1
        go_wp2_with fail
        go_quiet (fail)
        go_wp2_with fail
        go_ret
        exact ⟨by first | rfl | simp, below_on HK2.out (below_dn HB9.out _)⟩
      · obtain ⟨m, hm⟩ : ∃ m, m + 1 = dd + K := ⟨dd + K - 1, by omega⟩
        obtain ⟨hm1, hm2⟩ := hK4 m hK0 hm
        have u4 : IntKind.i64.wrap ((r.size : Int) - 1) = (m : Int) := by rw [IntWalk.i64_in _ (by omega)]; omega
        have u6 : ((r.extract 0 m).toList == (al.extract 0 m).toList) = true := by rw [ext_list, ext_list, hm1]; exact beq_self_eq_true _
        have u7 : ((r.size : Int) == (m : Int)) = false := beq_eq_false_iff_ne.2 (by omega)
        have u8 : m < r.size := by omega
        have u9 : m < al.size := by omega
        have u5 : max (dd : Int) (m : Int) = (m : Int) := by omega
        obtain ⟨y, hy⟩ : ∃ y, (r[m]).toNat = y := ⟨_, rfl⟩
        obtain ⟨z, hz⟩ : ∃ z, (al[m]).toNat = z := ⟨_, rfl⟩
        have hy2 := at_getD r m u8
        have hz2 := at_getD al m u9
        rw [hy] at hy2
        rw [hz] at hz2
        have hz3 : z < 256 := by rw [hz2]; exact UInt8.toNat_lt _
        have e4 : IntKind.u8.wrap (255 - (z : Int)) = ((255 - z : Nat) : Int) := by
          rw [show 255 - (z : Int) = ((255 - z : Nat) : Int) by omega]
          exact u8_in _ (by omega)
        have hyz : y = z ∨ y = 255 - z := by
          rcases hm2 with h | h
          · exact .inl (by rw [hy2, hz2, h])
          · refine .inr ?_
            rw [hy2, h, hz2]
            exact sub255 _
        clear hK3 hK4 hm1 hm2 hy2 hz2 hK0 hK1 hm
        by_cases hyz2 : y = z
        · have e5 : ((y : Int) == (z : Int)) = true := by rw [beq_iff_eq]; omega
          clear hyz hyz2
          go_wp2_with fail
          go_quiet (fail)
          go_wp2_with fail
          go_ret
          exact ⟨by first | rfl | simp, below_on HK2.out (below_dn HB9.out _)⟩
        · have e5 : ((y : Int) == (z : Int)) = false := beq_eq_false_iff_ne.2 (by omega)
          have e6 : ((y : Int) == ((255 - z : Nat) : Int)) = true := by rw [beq_iff_eq]; omega
          clear hyz hyz2
          go_wp2_with fail
          go_quiet (fail)
          go_wp2_with fail
          go_ret
          exact ⟨by first | rfl | simp, below_on HK2.out (below_dn HB9.out _)⟩
end Go.Proofs.Ytbmogecnepgnaaa
