/- DiskKeeps: the walk. -/
import Derived.Test.YtbmogecnepgnaaaDbb
import Derived.Test.YtbmogecnepgnaaaDbc
namespace Go.Proofs.Ytbmogecnepgnaaa
open Go.RowKit Go.Maps Go.Shelf
theorem few_all {l : List Ac} (h : fewB l = true) : ∀ x ∈ l, x.name.size ≤ 50 ∧ x.dst.size ≤ 50 ∧ x.sn ≤ 12 := fun x hx => by
  unfold fewB at h
  rw [Bool.and_eq_true] at h
  have h2 := List.all_eq_true.1 h.1 x hx
  unfold ac1 at h2
  simp only [Bool.and_eq_true, decide_eq_true_eq] at h2
  exact ⟨h2.1.1, h2.1.2, h2.2⟩
theorem few_len {l : List Ac} (h : fewB l = true) : l.length ≤ 40 := by
  unfold fewB at h
  rw [Bool.and_eq_true] at h
  exact of_decide_eq_true h.2
theorem kS_t {a b : ByteArray} (h : kS a = kS b) : (a.toList == b.data.toList) = true := by
  unfold kS at h
  injection h with h
  rw [ByteArray.toList_eq, h]
  exact beq_self_eq_true _
theorem kS_f {a b : ByteArray} (h : kS a ≠ kS b) : (a.toList == b.data.toList) = false := by
  rw [ByteArray.toList_eq]
  exact beq_eq_false_iff_ne.2 fun e => h (by unfold kS; rw [e])
theorem arr_back (o : ByteArray) : (⟨o.data.toList.toArray⟩ : ByteArray) = o := by cases o; simp
set_option maxRecDepth 100000 in
set_option maxHeartbeats 16000000 in
theorem keeps_any (o : ByteArray) {A : Option Addr} {n c : Nat} {l : List Ac} {w : World} (hn : l.length = n) (hnm : n ≤ maxLen) (hA : ActsAt w A l) (hok : ∀ x ∈ l, AcOk w x) :
    Calls Try.prog 6 #[.string o, .slice A n c] w fun e w' => e = .returned (.bool true) ∧ Below w.heap.size w w' := by
  have HA := Lib.hid hA
  have HO := Lib.hid hok
  have HN := Lib.hid hn
  have hnm : n ≤ 9223372036854775807 := hnm
  clear hA hok hn
  go_enter Try.func6, Try.ntmps6
  go_wp2_with fail
  refine (known_true w).mono ?_
  rintro e w2 ⟨rfl, hb⟩
  have HK2 := Lib.hid hb
  clear hb
  go_wp2_with fail
  refine (few_any (c := c) (HA.out.keep HK2.out) HN.out hnm).mono ?_
  rintro e wn ⟨rfl, rfl⟩
  obtain ⟨q, hq⟩ : ∃ q, fewB l = q := ⟨_, rfl⟩
  rw [hq]
  have HQ := Lib.hid hq
  clear hq
  cases q
  · go_wp2_with fail
    refine (known_true wn).mono ?_
    rintro e w3 ⟨rfl, hb⟩
    have HK3 := Lib.hid (below_on HK2.out hb)
    clear hb
    go_wp2_with fail
    go_ret
    exact ⟨rfl, HK3.out⟩
  by_cases h1 : 20 < n
  · have j1 : (20 : Int) < (n : Int) := by omega
    go_wp2_with fail
    refine (known_true wn).mono ?_
    rintro e w3 ⟨rfl, hb⟩
    have HK3 := Lib.hid (below_on HK2.out hb)
    clear hb
    go_wp2_with fail
    go_ret
    exact ⟨rfl, HK3.out⟩
  have j1 : ¬ (20 : Int) < (n : Int) := by omega
  by_cases h2 : 50 < o.size
  · have j2 : (50 : Int) < (o.size : Int) := by omega
    go_wp2_with fail
    refine (known_true wn).mono ?_
    rintro e w3 ⟨rfl, hb⟩
    have HK3 := Lib.hid (below_on HK2.out hb)
    clear hb
    go_wp2_with fail
    go_ret
    exact ⟨rfl, HK3.out⟩
  have j2 : ¬ (50 : Int) < (o.size : Int) := by omega
  go_wp2_with fail
  refine (new_ok 1000 (by decide) wn).mono ?_
  rintro e w3 ⟨p, m, rfl, hD, hm1, hm2, hb⟩
  have HD0 := Lib.hid (Disk.of (c := 0) hD (newL (by decide)) (by omega) (by omega) (by rw [hm2]; exact Nat.le_refl _))
  have HB0 := Lib.hid hb
  clear hD hm1 hm2 hb
  go_wp2_with fail
  have hq1 := append_any HD0.out (by decide) bKept o (by decide) (by omega)
  rw [(kn1 0 o (by omega)).1] at hq1
  refine hq1.mono ?_
  rintro e w4 ⟨b, rfl, hD, _, hb⟩
  rw [(kn1 b o (by omega)).2] at hD
  have HD1 := Lib.hid hD
  have HB1 := Lib.hid (HB0.out.trans hb)
  clear hD hb hq1 HD0 HB0
  go_wp2_with fail
  have hq := sync_any HD1.out bKept (by decide)
  rw [(kn2 b o).1, (kn2 b o).2] at hq
  refine hq.mono ?_
  rintro e wd ⟨rfl, hD, hb⟩
  have HD2 := Lib.hid hD
  have HB2 := Lib.hid (HB1.out.trans hb)
  clear hD hb hq HD1 HB1
  go_wp2_with fail
  have hq := publish_any HD2.out
  rw [(kn3 b o).1, (kn3 b o).2] at hq
  refine hq.mono ?_
  rintro e we ⟨rfl, hD, hb⟩
  have HD3 := Lib.hid hD
  have HB3 := Lib.hid (HB2.out.trans hb)
  have HS3 := Lib.hid (kn_ki b o)
  clear hD hb hq HD2 HB2
  go_wp2_with fail
  go_loopw [7, 8, 9] (fun i _ _ wr => ∃ (j : Nat) (s : St), i = .int .i64 (j : Nat) ∧ j ≤ n ∧ Disk wr wn.heap.size p s (j + 1) ∧ KI s b o.data.toList ∧ Below wn.heap.size wn wr) (fun i _ _ _ => n - (intOf i).toNat)
  case atStart => exact ⟨0, _, rfl, Nat.zero_le _, HD3.out, HS3.out, HB3.out⟩
  case round =>
    obtain ⟨j, s, rfl, hj, hD, hS, hB⟩ := hrel
    have HD := Lib.hid hD
    have HS := Lib.hid hS
    have HB := Lib.hid hB
    clear hD hS hB
    by_cases hlt : j < n
    · have i1 : (j : Int) < (n : Int) := by omega
      have i2 : IntKind.i64.wrap ((j : Int) + 1) = (j : Int) + 1 := IntWalk.i64_in _ (by omega)
      obtain ⟨x, hx⟩ : ∃ x, l[j]? = some x := ⟨_, List.getElem?_eq_getElem (by have := HN.out; omega)⟩
      have hxl := List.mem_of_getElem? hx
      have hsm := few_all HQ.out x hxl
      have HX := Lib.hid ((HO.out x hxl).keep (HK2.out))
      obtain ⟨g, off, e, _, hc⟩ := (HA.out.keep (below_on HK2.out HB.out)) j x hx
      subst e
      have z0 := hc 0 _ rfl
      have z1 := hc 1 _ rfl
      have z2 := hc 2 _ rfl
      have z3 := hc 3 _ rfl
      have z4 := hc 4 _ rfl
      rw [show off + (5 * j + 0) = off + j * 5 by omega] at z0
      rw [show off + (5 * j + 1) = off + j * 5 + 1 by omega] at z1
      rw [show off + (5 * j + 2) = off + j * 5 + 2 by omega] at z2
      rw [show off + (5 * j + 3) = off + j * 5 + 3 by omega] at z3
      rw [show off + (5 * j + 4) = off + j * 5 + 4 by omega] at z4
      clear hc hx hxl
      by_cases hx1 : kS x.name = kS bKept
      · have hkx := kS_t hx1
        rw [show bKept.data.toList = [107, 101, 112, 116] from rfl] at hkx
        clear hx1
        go_wp2_with fail
        go_roundw
        case rel => exact ⟨j + 1, s, by go_num, by omega, HD.out.mono (Nat.le_succ _), HS.out, HB.out⟩
        case measure => simp [intOf]; omega
      · have hkx := kS_f hx1
        rw [show bKept.data.toList = [107, 101, 112, 116] from rfl] at hkx
        by_cases hx2 : kS x.dst = kS bKept
        · have hkd := kS_t hx2
          rw [show bKept.data.toList = [107, 101, 112, 116] from rfl] at hkd
          clear hx1 hx2
          go_wp2_with fail
          go_roundw
          case rel => exact ⟨j + 1, s, by go_num, by omega, HD.out.mono (Nat.le_succ _), HS.out, HB.out⟩
          case measure => simp [intOf]; omega
        · have hkd := kS_f hx2
          rw [show bKept.data.toList = [107, 101, 112, 116] from rfl] at hkd
          have HE := Lib.hid (⟨hx1, hx2⟩ : _ ∧ _)
          clear hx1 hx2
          go_wp2_with fail
          obtain ⟨k1, k2, k3, k4, _, li, k5, k6, k7⟩ := HX.out
          refine (act_any (x := x) (l := li) HD.out (by omega) k1 (by omega) (by omega) k4 (k6.keep HB.out) (fun b' o' t' z e => ?_) k5 k7).mono ?_
          · obtain ⟨y, hy⟩ : ∃ y, li[0]? = some y := by
              cases li with
              | nil => exact absurd rfl z
              | cons a r => exact ⟨a, rfl⟩
            obtain ⟨b2, o2, e2, hl2, _⟩ := k6 0 y hy
            rw [e] at e2
            injection e2 with e2
            injection e2 with e3 _ _
            have := HB.out.size
            exact ⟨by omega, .inl (by omega)⟩
          rintro e w5 ⟨r, s', rfl, hr, hD, hb⟩
          have HS' := Lib.hid (HS.out.act HD.out.dl HE.out.1 HE.out.2 hr)
          have HD' := Lib.hid hD
          have HB' := Lib.hid (HB.out.trans hb)
          clear hr hD hb k1 k2 k3 k4 k5 k6 k7 hkx hkd
          clear z0 z1 z2 z3 z4
          go_wp2_with fail
          refine (down_any HD'.out).mono ?_
          rintro e w6 ⟨rfl, rfl⟩
          obtain ⟨dn, hdn⟩ : ∃ q, s'.down = q := ⟨_, rfl⟩
          rw [hdn]
          have HDN := Lib.hid hdn
          clear hdn
          cases dn
          · go_wp2_with fail
            have h10 := read_any HD'.out bKept (by decide)
            rw [(HS'.out.read HD'.out HDN.out).1, (HS'.out.read HD'.out HDN.out).2, arr_back] at h10
            refine h10.mono ?_
            rintro e wh ⟨rfl, rfl⟩
            clear h10
            go_wp2_with fail
            go_roundw
            case rel => exact ⟨j + 1, s', by go_num, by omega, HD'.out, HS'.out, HB'.out⟩
            case measure => simp [intOf]; omega
          · go_wp2_with fail
            go_roundw
            case rel => exact ⟨j + 1, s', by go_num, by omega, HD'.out, HS'.out, HB'.out⟩
            case measure => simp [intOf]; omega
    · have i1 : ¬ (j : Int) < (n : Int) := by omega
      go_wp2_with fail
      refine (crash_any HD.out).mono ?_
      rintro e wf ⟨⟨v, rfl⟩, hD, hb⟩
      have HD4 := Lib.hid hD
      have HB4 := Lib.hid (HB.out.trans hb)
      have HS4 := Lib.hid (show KI { s with down := true } b o.data.toList from ⟨HS.out.f, HS.out.d, HS.out.o⟩)
      clear hD hb
      go_wp2_with fail
      refine (start_any HD4.out (by omega) rfl (A := none) (n := 0) (cl := 0) (l := []) (fun k x hk => by simp at hk) (fun b' o' t' z e => absurd rfl z) rfl (fun k hk => by cases hk)).mono ?_
      rintro e wg ⟨⟨v9, rfl⟩, ⟨ss, _, _, hD⟩, hb⟩
      have HD9 := Lib.hid hD
      have HB9 := Lib.hid (HB4.out.trans hb)
      have HS9 := Lib.hid (HS4.out.start [] ss)
      clear hD hb
      go_wp2_with fail
      have h10 := read_any HD9.out bKept (by decide)
      rw [(HS9.out.read HD9.out rfl).1, (HS9.out.read HD9.out rfl).2, arr_back] at h10
      refine h10.mono ?_
      rintro e wh ⟨rfl, rfl⟩
      clear h10
      go_wp2_with fail
      go_ret
      exact ⟨by first | rfl | simp, (below_on HK2.out HB9.out)⟩
end Go.Proofs.Ytbmogecnepgnaaa
