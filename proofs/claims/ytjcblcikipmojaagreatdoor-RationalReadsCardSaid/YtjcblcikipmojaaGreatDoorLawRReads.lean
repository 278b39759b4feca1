/- The law RationalReads: its walk. -/
import Derived.Test.YtjcblcikipmojaaGreatDoorChk
namespace Go.Proofs.YtjcblcikipmojaaGreatDoor
open Go.RowKit

/-- A slice of digits behind a 7, which is nobody else's. -/
def DigB (w : World) (vb : Value) (m : Nat) (wr : World) : Prop :=
  ∃ t : List Int, t.length = m ∧ (∀ x ∈ t, 48 ≤ x ∧ x ≤ 57) ∧ t.head? = some 55 ∧ wr.ownsRow w.heap.size 5 1 vb m (bytesOf t) ∧ Below w.heap.size w wr
theorem digB_start (w0 w : World) (h : Below w0.heap.size w0 w) : DigB w0 (.slice (some ⟨w.heap.size, 0, none⟩) 1 1) 1 (w.alloc (.cells #[.int .u8 55] 5)) :=
  ⟨[55], rfl, by decide, rfl, ⟨rfl, .inr ⟨w.heap.size, 1, #[.int .u8 55], rfl, h.size, heap_new w _, Nat.le_refl _, by decide, rfl, rfl⟩⟩, h.alloc h.size _⟩
theorem digB_next {w wr w2 : World} {vb v : Value} {m : Nat} {x : Int} (h0 : 48 ≤ x) (h1 : x ≤ 57) {t : List Int} (hl : t.length = m) (hd : ∀ x ∈ t, 48 ≤ x ∧ x ≤ 57) (hh : t.head? = some 55) (hown : wr.ownsRow w.heap.size 5 1 vb m (bytesOf t)) (hbel : Below w.heap.size w wr)
    (hown2 : w2.ownsRow w.heap.size 5 1 v (m + 1) (bytesOf t ++ [.int .u8 x])) (hgr : (wr.alloc (.cells #[.int .u8 x] 5)).grownBy w2 vb.ownBlock) : DigB w v (m + 1) w2 := by
  refine ⟨t ++ [x], by rw [List.length_append, hl]; rfl, fun y hy => ?_, ?_, by simpa [bytesOf] using hown2, (hbel.alloc hbel.size _).grown hgr (by simp; have := hbel.size; omega) (fun k hk => own_ge hown hk)⟩
  · rcases List.mem_append.1 hy with h | h
    · exact hd y h
    · rw [List.mem_singleton.1 h]; exact ⟨h0, h1⟩
  · cases t with
    | nil => cases hh
    | cons c l => exact hh
theorem digits_text {t : List Int} (hd : ∀ x ∈ t, 48 ≤ x ∧ x ≤ 57) (hh : t.head? = some 55) : errOf (strOfNums t) = 0 := by
  have h1 : allDig (strOfNums t).data.toList = true := by
    unfold allDig
    rw [strOfNums_data, List.all_eq_true]
    intro c hc
    obtain ⟨x, hx, rfl⟩ := List.mem_map.1 hc
    obtain ⟨h2, h3⟩ := hd x hx
    have e : (UInt8.ofNat x.toNat).toNat = x.toNat := by
      rw [UInt8.toNat_ofNat']
      exact Nat.mod_eq_of_lt (by omega)
    unfold isDig
    rw [e]
    simp
    omega
  cases t with
  | nil => cases hh
  | cons c l =>
    have hc : c = 55 := by simpa using hh
    subst hc
    refine (den_good h1 (by rw [strOfNums_size]; exact Nat.succ_pos _) ?_).1
    unfold lead0
    rw [strOfNums_data]
    rfl
/-- A rational without an error. -/
def FM (q : Rat) (a : Int) (P : Option Addr) (b : Int) (Q : Option Addr) (E : Int) (w : World) : Prop := E = 0 ∧ RatV w a P b Q q
theorem FM.put {q : Rat} {a b E : Int} {P Q : Option Addr} {w : World} {p : Nat} (h : FM q a P b Q E w) (R : Cells w p [.int .i64 0, .pointer none, .int .i64 0, .pointer none]) : FM q a P b Q E (put4 w p (.int .i64 a) (.pointer P) (.int .i64 b) (.pointer Q)) :=
  ⟨h.1, h.2.wrote R (by rfl) (put4_heap _ p (.int .i64 a) (.pointer P) (.int .i64 b) (.pointer Q)).1 (put4_heap _ _ _ _ _ _).2⟩
theorem parse_whole {s : ByteArray} (h : errOf s = 0) (most : Nat) (w : World) (hs : s.size ≤ 1250) (hm : s.size ≤ most) (hm2 : most ≤ 1000000000) :
    Calls Tryz.prog 66 #[.string s, .int .i64 (most : Nat)] w (RetE (FM ((zOf s : Int) : Rat)) w) := by
  have e := txt_zOf h
  have hn : ((zOf s : Int) : Rat).num = zOf s := Rat.num_intCast _
  have hd : ((zOf s : Int) : Rat).den = 1 := Rat.den_intCast _
  have hc := parse_int ((zOf s : Int) : Rat) most w hd (by rw [hn, e]; exact ⟨h, rfl⟩) (by rw [hn, e]; exact hs) (by rw [hn, e]; exact hm) hm2
  rw [hn, e] at hc
  refine hc.mono ?_
  rintro e w' ⟨a, P, b, Q, rfl, hv, hb⟩
  exact ⟨a, P, b, Q, 0, rfl, ⟨rfl, hv⟩, hb⟩
theorem rat_zOf {s : ByteArray} (h : errOf s = 0) (hs : s.size ≤ 1250) : ((zOf s : Int) : Rat).num.natAbs < ten 3000 ∧ ((zOf s : Int) : Rat).den < ten 3000 ∧ ratTxt ((zOf s : Int) : Rat) = s := by
  have e := txt_zOf h
  have hn : ((zOf s : Int) : Rat).num = zOf s := Rat.num_intCast _
  have hd : ((zOf s : Int) : Rat).den = 1 := Rat.den_intCast _
  have hl := @digN_sz (zOf s)
  rw [e] at hl
  refine ⟨by rw [hn]; exact Nat.lt_of_lt_of_le (digN_lt _) (ten_le (by omega)), by rw [hd]; decide +kernel, by unfold ratTxt; rw [if_pos hd, hn, e]⟩
set_option maxRecDepth 100000 in
set_option maxHeartbeats 8000000 in
theorem rationalReads_walk (s : ByteArray) (n : Nat) (w : World) (hs : s.size ≤ 9223372036854775807) (hn : n < 256) (hw : Good w) :
    Calls Tryz.prog 4 #[.string s, .int .u8 (n : Nat)] w fun e w' => e = .returned (.bool true) ∧ Below w.heap.size w w' := by
  obtain ⟨i0, hi, hz0, hz1, hz2⟩ := info_parts info_u8
  have Hw := Lib.hid (fun w' (h : Below w.heap.size w w') => hw.below h)
  have Hk := Lib.hid (known2_true w hw)
  clear hw
  go_enter Tryz.func4, Tryz.ntmps4
  go_wp2_with fail
  refine Hk.out.mono ?_
  rintro e w1 ⟨rfl, h1⟩
  have k1 := Lib.hid h1
  clear h1
  by_cases hbig : 60 < s.size
  · go_wp2_with fail
    refine (known2_true w1 (Hw.out _ k1.out)).mono ?_
    rintro e w2 ⟨rfl, h2⟩
    have k2 := Lib.hid (below_on k1.out h2)
    clear h2 k1
    go_wp2
    go_ret
    exact ⟨rfl, k2.out⟩
  have Hst := Lib.hid (digB_start w w1 k1.out)
  have hs60 : s.size ≤ 60 := by omega
  obtain ⟨T, hT⟩ : ∃ T, n % 21 = T := ⟨_, rfl⟩
  have hT20 : T ≤ 20 := by omega
  clear hbig
  go_wp2_with fail
  go_loopw [23, 5] (fun vc vb wr => ∃ k : Nat, k ≤ T ∧ vc = .int .u8 (k : Nat) ∧ DigB w vb (1 + k * s.size) wr) (fun vc _ _ => T - (intOf vc).toNat)
  case atStart => exact ⟨0, Nat.zero_le _, rfl, by rw [Nat.zero_mul]; exact Hst.out⟩
  case round =>
    obtain ⟨k, hk, rfl, hb⟩ := hrel
    have Hb := Lib.hid hb
    clear hb
    by_cases hlt : k < T
    · have hltI : (k : Int) < (n : Int) % 21 := by omega
      go_wp2_with fail
      go_loopw [5, 6] (fun vb vi wr => ∃ i : Nat, i ≤ s.size ∧ vi = .int .i64 (i : Nat) ∧ DigB w vb (1 + k * s.size + i) wr) (fun _ vi _ => s.size - (intOf vi).toNat)
      case atStart => exact ⟨0, Nat.zero_le _, rfl, Hb.out⟩
      case round =>
        obtain ⟨i, hi2, rfl, t, htl, htd, hth, hown, hbel⟩ := hrel
        have Htd := Lib.hid htd
        have Hth := Lib.hid hth
        have Hown := Lib.hid hown
        have Hbel := Lib.hid hbel
        have hsz := hbel.size
        clear htd hth hown hbel
        by_cases hlt2 : i < s.size
        · obtain ⟨x, hx⟩ : ∃ x, (s[i]).toNat = x := ⟨_, rfl⟩
          have hks : k * s.size ≤ 20 * 60 := Nat.mul_le_mul (by omega) hs60
          obtain ⟨ks, hkse⟩ : ∃ m, k * s.size = m := ⟨_, rfl⟩
          rw [hkse] at htl Hown hks ⊢
          go_wp2_with (at_builtin; refine wpList_append_own _ rfl _ _ 32 rfl w.heap.size 5 i0 (.int .u8 0) 1 1 Tryz.underlying32 hi hz0 hz1 hz2 rfl (by decide) _ _ _ rfl (Hown.out.alloc _) ⟨wr.heap.size, 0, none⟩ 1 1 [.int .u8 (48 + (x : Int) % 10)] rfl rfl (fun k u hu => by match k, hu with | 0, hu => simp at hu; subst hu; simp [Addr.add]) (fun u hu => by simp at hu; subst hu; rfl) (by unfold maxLen; omega) (by omega) (by simp; omega) ?_)
          intro v' w4 hownN hgrow _
          have hfin := digB_next (by omega) (by omega) htl Htd.out Hth.out Hown.out Hbel.out hownN hgrow
          have Hfin := Lib.hid hfin
          clear hfin hownN hgrow
          go_wp2
          go_roundw
          case rel => exact ⟨i + 1, by omega, by go_num, Hfin.out⟩
          case measure => simp [intOf]; omega
        · obtain rfl : i = s.size := by omega
          have e : 1 + k * s.size + s.size = 1 + (k + 1) * s.size := by rw [Nat.add_mul]; omega
          rw [e] at htl Hown
          go_wp2
          go_roundw
          case rel => exact ⟨k + 1, by omega, by go_num, t, htl, Htd.out, Hth.out, Hown.out, Hbel.out⟩
          case measure => simp [intOf]; omega
    · obtain ⟨t, htl, htd, hth, hown, hbel⟩ := Hb.out
      have cv := fun dst hd => ownR_string hown htl dst hd (by omega)
      have hks : k * s.size ≤ 20 * 60 := Nat.mul_le_mul (by omega) hs60
      have hsz : (strOfNums t).size ≤ 1250 := by rw [strOfNums_size]; omega
      have He := Lib.hid (digits_text htd hth)
      obtain ⟨S, hS⟩ : ∃ S, strOfNums t = S := ⟨_, rfl⟩
      rw [hS] at cv hsz He
      have k2 := Lib.hid hbel
      have Hrat := Lib.hid (rat_zOf He.out hsz)
      obtain ⟨q, hq⟩ : ∃ q, ((zOf S : Int) : Rat) = q := ⟨_, rfl⟩
      have HR := Lib.hid (fun w => rdW_any S w (parse_whole He.out 65536 _ hsz (by omega) (by decide)) (fun _ _ _ _ _ _ R h => h.put R))
      have HP := Lib.hid (fun w h => rpW_any S w (parse_whole He.out 400 _ hsz h (by decide)) (fun _ _ _ _ _ _ R h => h.put R))
      rw [hq] at Hrat HR HP
      have HI := Lib.hid (fun a P b Q w hr hg => is_true a P b Q q S w hr Hrat.out.1 Hrat.out.2.1 Hrat.out.2.2 hg)
      clear hown htl htd hth hbel hS hq hks Hb
      go_wp2_with fail
      refine (HR.out _).mono ?_
      rintro e w2 ⟨a2, P2, b2, Q2, E2, rfl, ⟨rfl, hv⟩, h2⟩
      have kv := (Below.refl w2.heap.size w2).alloc (Nat.le_refl _) (.cells #[.int .i64 a2, .pointer P2, .int .i64 b2, .pointer Q2] 27)
      have V2 := Lib.hid (box_rat w2 a2 P2 b2 Q2)
      have F2 := Lib.hid (hv.keep kv)
      have k2 := Lib.hid (below_on (below_on k2.out h2) kv)
      obtain ⟨x2, hx2⟩ : ∃ u, w2.alloc (.cells #[.int .i64 a2, .pointer P2, .int .i64 b2, .pointer Q2] 27) = u := ⟨_, rfl⟩
      obtain ⟨p2, hp2⟩ : ∃ p, w2.heap.size = p := ⟨_, rfl⟩
      rw [hx2] at V2 F2 k2 
      rw [hp2] at V2
      clear hv h2 kv
      by_cases hl : 400 < S.size
      · have HL := Lib.hid (fun w => rpL_any S w (by omega) (by omega))
        have HZ := Lib.hid (fun a P b Q w hr hg => is_true a P b Q 0 ⟨#[48]⟩ w hr (by decide +kernel) (by decide +kernel) (by decide +kernel) hg)
        go_wp2_with fail
        try simp only [hx2, hp2]
        refine (HL.out _).mono ?_
        rintro e w3 ⟨a3, P3, b3, Q3, E3, rfl, ⟨rfl, hz⟩, h2⟩
        have hv : RatV w3 a3 P3 b3 Q3 0 := by obtain ⟨rfl, rfl, rfl, rfl⟩ := hz; exact ⟨small_int ⟨by decide, by decide⟩, small_int ⟨by decide, by decide⟩⟩
        clear hz
        have kv := (Below.refl w3.heap.size w3).alloc (Nat.le_refl _) (.cells #[.int .i64 a3, .pointer P3, .int .i64 b3, .pointer Q3] 27)
        have V3 := Lib.hid (box_rat w3 a3 P3 b3 Q3)
        have F3 := Lib.hid (hv.keep kv)
        have V2 := Lib.hid ((V2.out.keep h2).keep kv)
        have F2 := Lib.hid ((F2.out.keep h2).keep kv)
        have k3 := Lib.hid (below_on (below_on k2.out h2) kv)
        obtain ⟨x3, hx3⟩ : ∃ u, w3.alloc (.cells #[.int .i64 a3, .pointer P3, .int .i64 b3, .pointer Q3] 27) = u := ⟨_, rfl⟩
        obtain ⟨p3, hp3⟩ : ∃ p, w3.heap.size = p := ⟨_, rfl⟩
        rw [hx3] at V3 F3 k3 V2 F2
        rw [hp3] at V3
        clear hv h2 kv
        have c0 := V2.out.c0
        have c1 := V2.out.c1
        have c2 := V2.out.c2
        have c3 := V2.out.c3
        go_wp2_with fail
        try simp only [hx3, hp3]
        refine (HI.out _ _ _ _ _ F2.out (Hw.out _ k3.out)).mono ?_
        rintro e w4 ⟨rfl, h2⟩
        have V3 := Lib.hid (V3.out.keep h2)
        have F3 := Lib.hid (F3.out.keep h2)
        have k4 := Lib.hid (below_on k3.out h2)
        clear c0 c1 c2 c3 h2
        have c0 := V3.out.c0
        have c1 := V3.out.c1
        have c2 := V3.out.c2
        have c3 := V3.out.c3
        go_wp2_with fail
        refine (HZ.out _ _ _ _ _ F3.out (Hw.out _ k4.out)).mono ?_
        rintro e w5 ⟨rfl, h2⟩
        have k5 := Lib.hid (below_on k4.out h2)
        clear h2
        go_wp2
        go_ret
        exact ⟨rfl, k5.out⟩
      · have HL := Lib.hid (fun w => HP.out w (by omega))
        go_wp2_with fail
        try simp only [hx2, hp2]
        refine (HL.out _).mono ?_
        rintro e w3 ⟨a3, P3, b3, Q3, E3, rfl, ⟨rfl, hv⟩, h2⟩
        have kv := (Below.refl w3.heap.size w3).alloc (Nat.le_refl _) (.cells #[.int .i64 a3, .pointer P3, .int .i64 b3, .pointer Q3] 27)
        have V3 := Lib.hid (box_rat w3 a3 P3 b3 Q3)
        have F3 := Lib.hid (hv.keep kv)
        have V2 := Lib.hid ((V2.out.keep h2).keep kv)
        have F2 := Lib.hid ((F2.out.keep h2).keep kv)
        have k3 := Lib.hid (below_on (below_on k2.out h2) kv)
        obtain ⟨x3, hx3⟩ : ∃ u, w3.alloc (.cells #[.int .i64 a3, .pointer P3, .int .i64 b3, .pointer Q3] 27) = u := ⟨_, rfl⟩
        obtain ⟨p3, hp3⟩ : ∃ p, w3.heap.size = p := ⟨_, rfl⟩
        rw [hx3] at V3 F3 k3 V2 F2
        rw [hp3] at V3
        clear hv h2 kv
        have c0 := V2.out.c0
        have c1 := V2.out.c1
        have c2 := V2.out.c2
        have c3 := V2.out.c3
        go_wp2_with fail
        try simp only [hx3, hp3]
        refine (HI.out _ _ _ _ _ F2.out (Hw.out _ k3.out)).mono ?_
        rintro e w4 ⟨rfl, h2⟩
        have V3 := Lib.hid (V3.out.keep h2)
        have F3 := Lib.hid (F3.out.keep h2)
        have k4 := Lib.hid (below_on k3.out h2)
        clear c0 c1 c2 c3 h2
        have c0 := V3.out.c0
        have c1 := V3.out.c1
        have c2 := V3.out.c2
        have c3 := V3.out.c3
        go_wp2_with fail
        refine (HI.out _ _ _ _ _ F3.out (Hw.out _ k4.out)).mono ?_
        rintro e w5 ⟨rfl, h2⟩
        have k5 := Lib.hid (below_on k4.out h2)
        clear h2
        go_wp2
        go_ret
        exact ⟨rfl, k5.out⟩
end Go.Proofs.YtjcblcikipmojaaGreatDoor
