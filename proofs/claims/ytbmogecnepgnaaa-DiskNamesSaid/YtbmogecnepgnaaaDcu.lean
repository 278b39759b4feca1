/- DiskCalls: the walk. -/
import Derived.Test.YtbmogecnepgnaaaDct
import Derived.Test.YtbmogecnepgnaaaDbd
namespace Go.Proofs.Ytbmogecnepgnaaa
open Go.RowKit Go.Maps Go.Shelf
theorem hli_lt {w : World} {A : Option Addr} {l : List Int} (h : IntL w A l) {b o : Nat} {t : Option TypeId} (z : l ≠ []) (e : A = some ⟨b, o, t⟩) : b < w.heap.size := by
  obtain ⟨y, hy⟩ : ∃ y, l[0]? = some y := by
    cases l with
    | nil => exact absurd rfl z
    | cons a r => exact ⟨a, rfl⟩
  obtain ⟨b2, o2, e2, hl2, _⟩ := h 0 y hy
  rw [e] at e2
  injection e2 with e2
  injection e2 with e3 _ _
  omega
theorem MdAt.lt {w : World} {pm : Nat} {md : Md} (h : MdAt w pm md) : pm < w.heap.size := let ⟨_, _, _, _, h⟩ := h; row_lt h.obj
/-- The model of a new disk. -/
def md0 (k : Nat) : Md := ⟨k, -1, false, [], [], [], []⟩
theorem sim0 (k : Nat) : Sim (newS k) (md0 k) := ⟨rfl, rfl, rfl, rfl, NR.nil, NR.nil, trivial⟩
theorem md0_at (k : Nat) (w : World) : MdAt (w.alloc (.cells #[.int .i64 (k : Nat), .int .i64 (-1), .bool false, .slice none 0 0, .slice none 0 0, .slice none 0 0, .slice none 0 0] 34)) w.heap.size (md0 k) :=
  ⟨_, _, _, _, heap_new w _, RowAt.nil _ _ _, RowAt.nil _ _ _, RowAt.nil _ _ _, RowAt.nil _ _ _⟩
set_option maxRecDepth 100000 in
set_option maxHeartbeats 16000000 in
theorem calls_any (a : Nat) (ha : a < 256) {A : Option Addr} {n c : Nat} {l : List Ac} {w : World} (hn : l.length = n) (hnm : n ≤ maxLen) (hA : ActsAt w A l) (hok : ∀ x ∈ l, AcOk w x) :
    Calls Try.prog 3 #[.int .u8 (a : Nat), .slice A n c] w fun e w' => e = .returned (.bool true) ∧ Below w.heap.size w w' := by
  have HA := Lib.hid hA
  have HO := Lib.hid hok
  have HN := Lib.hid hn
  have hnm : n ≤ 9223372036854775807 := hnm
  obtain ⟨k, hk⟩ : ∃ k, a % 201 = k := ⟨_, rfl⟩
  have hkl : k ≤ 200 := by omega
  have hka : (a : Int).tmod 201 = (k : Nat) := by rw [← hk]; exact (Int.ofNat_tmod a 201).symm
  have hkw : IntKind.i64.wrap (a : Int) = (a : Int) := IntWalk.i64_in _ (by omega)
  clear hA hok hn hk
  go_enter Try.func3, Try.ntmps3
  go_wp2_with fail
  refine (known_true w).mono ?_
  rintro e w2 ⟨rfl, hb⟩
  have HK2 := Lib.hid hb
  clear hb
  go_wp2_with fail
  refine (few_any (c := c) (HA.out.keep HK2.out) HN.out hnm).mono ?_
  rintro e wn ⟨rfl, rfl⟩
  obtain ⟨q, hq⟩ : ∃ q, fewB l = q := ⟨_, rfl⟩
  rw [hq]
  have HQ := Lib.hid hq
  clear hq
  cases q
  · go_wp2_with fail
    refine (known_true wn).mono ?_
    rintro e w3 ⟨rfl, hb⟩
    have HK3 := Lib.hid (below_on HK2.out hb)
    clear hb
    go_wp2_with fail
    go_ret
    exact ⟨rfl, HK3.out⟩
  have hn40 : n ≤ 40 := by have := few_len HQ.out; have := HN.out; omega
  go_wp2_with fail
  refine (new_ok k (by omega) wn).mono ?_
  rintro e w3 ⟨p, m, rfl, hD, hm1, hm2, hb⟩
  have hD0 := Disk.of (c := 0) hD (newL (by omega)) (by omega) (by omega) (by rw [hm2]; exact Nat.le_refl _)
  have hal := (Below.refl w3.heap.size w3).alloc (Nat.le_refl _) (.cells #[.int .i64 (k : Nat), .int .i64 (-1), .bool false, .slice none 0 0, .slice none 0 0, .slice none 0 0, .slice none 0 0] 34)
  have HH0 := Lib.hid (show Both _ wn.heap.size p w3.heap.size 0 (newS k) (md0 k) from ⟨hD0.keep hal, md0_at k w3, sim0 k, Nat.le_refl _, hb.size⟩)
  have HB0 := Lib.hid (below_on hb hal)
  clear hD hm1 hm2 hb hD0 hal
  go_wp2_with fail
  refine (agrees_any HH0.out (by omega)).mono ?_
  rintro e w4 ⟨rfl, hh, hb⟩
  have HH1 := Lib.hid hh
  have HB1 := Lib.hid (HB0.out.trans hb)
  obtain ⟨pm, hpm⟩ : ∃ q, w3.heap.size = q := ⟨_, rfl⟩
  rw [hpm] at HH1 ⊢
  clear hh hb HH0 HB0 hpm
  go_wp2_with fail
  go_loopw [8] (fun i wr => ∃ (j : Nat) (s : St) (md : Md), i = .int .i64 (j : Nat) ∧ j ≤ n ∧ Both wr wn.heap.size p pm j s md ∧ Below wn.heap.size wn wr) (fun i _ => n - (intOf i).toNat)
  case atStart => exact ⟨0, _, _, rfl, Nat.zero_le _, HH1.out, HB1.out⟩
  case round =>
    obtain ⟨j, s, md, rfl, hj, hH, hB⟩ := hrel
    have HH := Lib.hid hH
    have HB := Lib.hid hB
    clear hH hB
    by_cases hlt : j < n
    · have i1 : (j : Int) < (n : Int) := by omega
      have i2 : IntKind.i64.wrap ((j : Int) + 1) = (j : Int) + 1 := IntWalk.i64_in _ (by omega)
      obtain ⟨x, hx⟩ : ∃ x, l[j]? = some x := ⟨_, List.getElem?_eq_getElem (by have := HN.out; omega)⟩
      have hxl := List.mem_of_getElem? hx
      have hsm := few_all HQ.out x hxl
      have HX := Lib.hid ((HO.out x hxl).keep (HK2.out))
      obtain ⟨g, off, e, hgl, hc⟩ := (HA.out.keep HK2.out) j x hx
      subst e
      have HCE := Lib.hid (fun w' (hb : Below wn.heap.size wn w') => (show w'.cell? ⟨g, off + j * 5, none⟩ = some (.int .u8 (x.kind : Nat)) ∧ w'.cell? ⟨g, off + j * 5 + 1, none⟩ = some (.string x.name) ∧ w'.cell? ⟨g, off + j * 5 + 2, none⟩ = some (.string x.dst) ∧ w'.cell? ⟨g, off + j * 5 + 3, none⟩ = some (.int .i8 x.num) ∧ w'.cell? ⟨g, off + j * 5 + 4, none⟩ = some (.slice x.sA x.sn x.sc) from by
        obtain ⟨g', off', e, _, hc⟩ := (HA.out.keep (below_on HK2.out hb)) j x hx
        injection e with e
        injection e with e1 e2 _
        subst e1 e2
        have z0 := hc 0 _ rfl
        have z1 := hc 1 _ rfl
        have z2 := hc 2 _ rfl
        have z3 := hc 3 _ rfl
        have z4 := hc 4 _ rfl
        rw [show off + (5 * j + 0) = off + j * 5 by omega] at z0
        rw [show off + (5 * j + 1) = off + j * 5 + 1 by omega] at z1
        rw [show off + (5 * j + 2) = off + j * 5 + 2 by omega] at z2
        rw [show off + (5 * j + 3) = off + j * 5 + 3 by omega] at z3
        rw [show off + (5 * j + 4) = off + j * 5 + 4 by omega] at z4
        exact ⟨z0, z1, z2, z3, z4⟩))
      clear hc hx hxl hgl
      go_upto_region 10 with fail
      have HS := Lib.hid (fun w' (hb : Below wn.heap.size wn w') => (show w'.cell? ⟨g, off + j * 5, none⟩ = some (.int .u8 (x.kind : Nat)) ∧ w'.cell? ⟨g, off + j * 5 + 1, none⟩ = some (.string x.name) ∧ w'.cell? ⟨g, off + j * 5 + 2, none⟩ = some (.string x.dst) ∧ w'.cell? ⟨g, off + j * 5 + 3, none⟩ = some (.int .i8 x.num) ∧ w'.cell? ⟨g, off + j * 5 + 4, none⟩ = some (.slice x.sA x.sn x.sc) from HCE.out w' hb))
      have hbd := HB.out.drew
      refine Till.begin 18 (fun w' => w'.cell? ⟨g, off + j * 5, none⟩ = some (.int .u8 (x.kind : Nat)) ∧ w'.cell? ⟨g, off + j * 5 + 1, none⟩ = some (.string x.name) ∧ w'.cell? ⟨g, off + j * 5 + 2, none⟩ = some (.string x.dst) ∧ w'.cell? ⟨g, off + j * 5 + 3, none⟩ = some (.int .i8 x.num) ∧ w'.cell? ⟨g, off + j * 5 + 4, none⟩ = some (.slice x.sA x.sn x.sc)) (by kernel_rfl) (HS.out _ hbd) (fun hH => ?_)
      clear hH
      have hx0 := (HH.out.keep (Below.refl wr.heap.size wr).drew).here
      generalize wr.drew = V0 at hbd hx0 ⊢
      have HB0 := Lib.hid hbd
      have HH0 := Lib.hid hx0
      clear hbd hx0
      try simp only [List.setIfInBounds_toArray, List.set_cons_zero, List.set_cons_succ]
      refine Till.tL 0 [5, 11, 12, 13, 14, 15, 16, 17, 18] 43 (ptrV p) (HS.out _ HB0.out) ?_
      try simp only [Act.put, List.setIfInBounds_toArray, List.set_cons_zero, List.set_cons_succ]
      refine Till.tL 1 [3, 4, 5, 11, 12, 13, 14, 15, 16, 17, 18] 44 (.slice (some ⟨g, off, none⟩) n c) (HS.out _ HB0.out) ?_
      try simp only [Act.put, List.setIfInBounds_toArray, List.set_cons_zero, List.set_cons_succ]
      refine Till.tL 2 [3, 4, 5, 11, 12, 13, 14, 15, 16, 17, 18] 45 (.int .i64 (j : Nat)) (HS.out _ HB0.out) ?_
      try simp only [Act.put, List.setIfInBounds_toArray, List.set_cons_zero, List.set_cons_succ]
      refine Till.tL 3 [4, 5, 11, 12, 13, 14, 15, 16, 17, 18] 46 (.pointer (some ⟨g, off + j * 5, none⟩)) (HS.out _ HB0.out) ?_
      try simp only [Act.put, List.setIfInBounds_toArray, List.set_cons_zero, List.set_cons_succ]
      refine Till.tL 4 [5, 11, 12, 13, 14, 15, 16, 17, 18] 47 (.agg #[.int .u8 (x.kind : Nat), .string x.name, .string x.dst, .int .i8 x.num, .slice x.sA x.sn x.sc]) (HS.out _ HB0.out) ?_
      try simp only [Act.put, List.setIfInBounds_toArray, List.set_cons_zero, List.set_cons_succ]
      refine Till.tL 6 [11, 12, 13, 14, 15, 16, 17, 18] 49 (ptrV pm) (HS.out _ HB0.out) ?_
      try simp only [Act.put, List.setIfInBounds_toArray, List.set_cons_zero, List.set_cons_succ]
      refine Till.tL 7 [9, 10, 11, 12, 13, 14, 15, 16, 17, 18] 50 (.slice (some ⟨g, off, none⟩) n c) (HS.out _ HB0.out) ?_
      try simp only [Act.put, List.setIfInBounds_toArray, List.set_cons_zero, List.set_cons_succ]
      refine Till.tL 8 [9, 10, 11, 12, 13, 14, 15, 16, 17, 18] 51 (.int .i64 (j : Nat)) (HS.out _ HB0.out) ?_
      try simp only [Act.put, List.setIfInBounds_toArray, List.set_cons_zero, List.set_cons_succ]
      refine Till.tL 9 [10, 11, 12, 13, 14, 15, 16, 17, 18] 52 (.pointer (some ⟨g, off + j * 5, none⟩)) (HS.out _ HB0.out) ?_
      try simp only [Act.put, List.setIfInBounds_toArray, List.set_cons_zero, List.set_cons_succ]
      refine Till.tL 10 [11, 12, 13, 14, 15, 16, 17, 18] 53 (.agg #[.int .u8 (x.kind : Nat), .string x.name, .string x.dst, .int .i8 x.num, .slice x.sA x.sn x.sc]) (HS.out _ HB0.out) ?_
      try simp only [Act.put, List.setIfInBounds_toArray, List.set_cons_zero, List.set_cons_succ]
      refine Till.one (i := 5) (by kernel_rfl) rfl (fun KK hK => ?_)
      go_simp
      obtain ⟨k1, k2, k3, k4, k9, li, k5, k6, k7⟩ := HX.out
      refine (act_any (x := x) (l := li) HH0.out.d (by omega) k1 (by omega) (by omega) k4 (k6.keep HB0.out) (fun b' o' t' z e => ⟨Nat.lt_of_lt_of_le (hli_lt k6 z e) HB0.out.size, .inl (hli_lt k6 z e)⟩) k5 k7).mono ?_
      rintro e V1 ⟨r, s', rfl, hr, hD, hb⟩
      have hst := hr.stay
      have hfr := hD.fr
      rw [hst.1] at hfr
      have HB1 := Lib.hid (HB0.out.trans hb)
      have hM1 := HH0.out.m.fr hfr
      obtain ⟨hac, hsim⟩ := sim_act HH0.out.k HH0.out.d.dl HH0.out.d.nod hr
      obtain ⟨hMB, hpx, hdp⟩ := HH0.out.k.mb HH0.out.d (by omega) (Nat.le_trans HH0.out.n (by omega))
      have HD1 := Lib.hid hD
      have HM1 := Lib.hid hM1
      have HSI := Lib.hid hsim
      have HFL := Lib.hid (Nat.le_trans hst.2 (Nat.succ_le_succ HH0.out.n))
      have hAM := actM_any hM1 hMB hpx hdp (x := x) (l := li) k1 (by omega) (by omega) k4 k9 (k6.keep HB1.out) (fun b' o' t' z e => Nat.lt_of_lt_of_le (hli_lt k6 z e) HH0.out.g) k5 k7
      rw [hac] at hAM
      have HAM := Lib.hid hAM
      refine hK.out _ _ (fun _ => HS.out _ HB1.out) ?_
      clear hK hr hst hfr hD hb hM1 hac hsim hMB hpx hdp hAM k1 k2 k3 k4 k9 k5 k6 k7
      try simp only [List.setIfInBounds_toArray, List.set_cons_zero, List.set_cons_succ]
      refine Till.one (i := 11) (by kernel_rfl) rfl (fun KK hK => ?_)
      go_simp
      refine HAM.out.mono ?_
      rintro e V2 ⟨rfl, hm, hg⟩
      have HH2 := Lib.hid (show Both V2 wn.heap.size p pm (j + 1) { s' with rd := noR } (mkS md x li (x.kind % 11)) from ⟨HD1.out.aside HM1.out hg, hm, HSI.out.base _, HFL.out, HH0.out.g⟩)
      have HB2 := Lib.hid (HB1.out.trans (below_g hg HH0.out.g HM1.out.lt))
      refine hK.out _ _ (fun _ => HS.out _ HB2.out) ?_
      clear hK hm hg
      try simp only [List.setIfInBounds_toArray, List.set_cons_zero, List.set_cons_succ]
      refine Till.one (i := 12) (by kernel_rfl) rfl (fun KK hK => ?_)
      go_simp
      refine hK.out _ _ (fun _ => HS.out _ HB2.out) ?_
      clear hK
      try simp only [List.setIfInBounds_toArray, List.set_cons_zero, List.set_cons_succ]
      refine Till.one (i := 13) (by kernel_rfl) rfl (fun KK hK => ?_)
      go_simp
      refine hK.out _ _ (fun _ => HS.out _ HB2.out) ?_
      clear hK
      try simp only [List.setIfInBounds_toArray, List.set_cons_zero, List.set_cons_succ]
      refine Till.tL 14 [16, 17, 18] 57 (ptrV pm) (HS.out _ HB2.out) ?_
      try simp only [Act.put, List.setIfInBounds_toArray, List.set_cons_zero, List.set_cons_succ]
      refine Till.tL 15 [16, 17, 18] 58 (ptrV p) (HS.out _ HB2.out) ?_
      try simp only [Act.put, List.setIfInBounds_toArray, List.set_cons_zero, List.set_cons_succ]
      refine Till.one (i := 16) (by kernel_rfl) rfl (fun KK hK => ?_)
      go_simp
      refine (agrees_any HH2.out (by omega)).mono ?_
      rintro e V3 ⟨rfl, hh, hb⟩
      have HH3 := Lib.hid hh
      have HB3 := Lib.hid (HB2.out.trans hb)
      refine hK.out _ _ (fun _ => HS.out _ HB3.out) ?_
      clear hK hh hb
      try simp only [List.setIfInBounds_toArray, List.set_cons_zero, List.set_cons_succ]
      refine Till.one (i := 17) (by kernel_rfl) rfl (fun KK hK => ?_)
      go_simp
      refine hK.out _ _ (by first | exact fun _ => HS.out _ HB3.out | exact fun h => absurd h (by simp)) ?_
      clear hK
      try simp only [List.setIfInBounds_toArray, List.set_cons_zero, List.set_cons_succ]
      refine Till.one (i := 18) (by kernel_rfl) rfl (fun KK hK => ?_)
      go_simp
      refine hK.out _ _ (by first | exact fun _ => HS.out _ HB3.out | exact fun h => absurd h (by simp)) ?_
      clear hK
      try simp only [List.setIfInBounds_toArray, List.set_cons_zero, List.set_cons_succ]
      refine Till.done (by kernel_rfl) ?_ _
      go_wp2_with fail
      go_roundw
      case rel => exact ⟨j + 1, _, _, by go_num, by omega, HH3.out, HB3.out⟩
      case measure => simp [intOf]; omega
    · have i1 : ¬ (j : Int) < (n : Int) := by omega
      go_wp2_with fail
      go_ret
      exact ⟨rfl, below_on HK2.out HB.out⟩
end Go.Proofs.Ytbmogecnepgnaaa
