/- writeDigits: its walk. -/
import Derived.Test.YtjcblcikipmojaaGreatDoorWrite
namespace Go.Proofs.YtjcblcikipmojaaGreatDoor
open Go.RowKit

theorem write_start {w w1 w2 : World} {g n c v : Nat} {xs : List Nat} (hx : xs.length = n) (h0 : 0 < n) (hn4 : n < 4294967296) {k : Nat} (hnk : n ≤ k) (hv : natVal xs = v) (hv0 : 0 < v) (hw : Words xs) (hb : Blk w1 g xs) (hg : w.heap.size ≤ g) (hbel : Below w.heap.size w w1)
    (hown : w2.ownsRow w1.heap.size 5 1 (.slice (some ⟨w1.heap.size, 0, none⟩) 0 c) 0 []) (hgr : w1.grownBy w2 none) :
    WriteInv w g k v (.slice (some ⟨g, 0, none⟩) n k) (.slice (some ⟨w1.heap.size, 0, none⟩) 0 c) w2 := by
  subst hx
  refine ⟨xs, [], rfl, by omega, hw, hb.grown hgr (by simp), hg, by rw [hv]; rfl, ?_, hbel.grown hgr hbel.size (by simp), hn4, hnk⟩
  refine ⟨by simp [bytesOf], ?_⟩
  rcases hown.2 with h | ⟨a, b, cur, h1, h2, h3⟩
  · exact .inl h
  · exact .inr ⟨a, b, cur, h1, Nat.le_trans hbel.size h2, h3⟩
theorem digit_start' {w wr w1 : World} {g v p k : Nat} {ls ys : List Nat} {t : List Int} {vt : Value} (hb : Blk wr g ls) (hg : w.heap.size ≤ g) (ht : t ++ sig (digN (natVal ls)) = sig (digN v))
    (hown : wr.ownsRow w.heap.size 5 1 vt t.length (bytesOf t)) (hbel : Below w.heap.size w wr) (hyl : ys.length = ls.length) (hp : p < 10000000000000000000) (hv : natVal ls = natVal ys * 10000000000000000000 + p) (hb1 : Blk w1 g ys) (ho : Only g wr w1)
    (hk : trimW ys ls.length = k) : DigitInv w g v t.length (ys.take k) vt (.int .u64 (p : Nat)) (.int .i64 0) w1 := by
  have hval : natVal (ys.take k) = natVal ys := by rw [← hk, trimW_val _ _ (by omega), ← hyl, List.take_length]
  refine ⟨0, p, t, rfl, rfl, by omega, by rw [Nat.sub_zero, pow19]; exact hp, hb1.take k, ?_, rfl, own_only hown ho (blk_ne hb hown), Below.only hbel ho hg hbel.size⟩
  rw [hval, Nat.sub_zero, pow19, Nat.add_comm, Nat.mul_comm, ← hv]
  exact ht
theorem digit_next {w wr w1 : World} {g v T0 i p : Nat} {ls : List Nat} {t : List Int} {vt v' : Value} (hi : i < 19) (hp : p < 10 ^ (19 - i)) (hb : Blk wr g ls) (ht : t ++ sig (digN (p + 10 ^ (19 - i) * natVal ls)) = sig (digN v)) (hne : p + 10 ^ (19 - i) * natVal ls ≠ 0)
    (hown : wr.ownsRow w.heap.size 5 1 vt t.length (bytesOf t)) (hbel : Below w.heap.size w wr) (x : Int) (hx : x = 48 + ((p % 10 : Nat) : Int))
    (hT : t.length = T0 + i) (hown' : w1.ownsRow w.heap.size 5 1 v' (t.length + 1) (bytesOf t ++ [.int .u8 x])) (hgrow : (wr.alloc (.cells #[.int .u8 x] 5)).grownBy w1 vt.ownBlock) :
    DigitInv w g v T0 ls v' (.int .u64 ((p / 10 : Nat) : Int)) (.int .i64 ((i : Int) + 1)) w1 := by
  refine ⟨i + 1, p / 10, t ++ [x], by simp, rfl, by omega, p_small hi hp, (hb.alloc _).grown hgrow (blk_ne hb hown), ?_, by simp; omega, by simpa [bytesOf] using hown', (hbel.alloc hbel.size _).grown hgrow (by simp; have := hbel.size; omega) (fun k hk => own_ge hown hk)⟩
  rw [write_digit hi hne] at ht
  rw [← ht, hx]
  simp [sig]

/-- Bytes in memory, as a string. -/
theorem Bytes.string {w : World} {g n c : Nat} {l : List Int} (h : Bytes w g l) (hl : l.length = n) :
    ∀ dst, Tryz.prog.underlying dst = some .string → (convert 32 dst (.slice (some ⟨g, 0, none⟩) n c)).run Tryz.prog w = .ok (.string (strOfNums l)) w := by
  subst hl
  refine run_convert_bytes_arg w 32 5 Tryz.underlying32 Tryz.underlying5 g 0 _ _ l rfl (fun i hi => ?_)
  have := h.cell hi
  rw [Nat.zero_add, this]
theorem own_bytes {w : World} {base n : Nat} {v : Value} {l : List Int} (h : w.ownsRow base 5 1 v n (bytesOf l)) (hl : 0 < l.length) : ∃ g c, v = .slice (some ⟨g, 0, none⟩) l.length c ∧ base ≤ g ∧ Bytes w g l := by
  have hn : l.length = n := by simpa [bytesOf] using h.1
  subst hn
  rcases h.2 with ⟨_, h0⟩ | ⟨g, cap, cur, rfl, hg, hh, hnc, hcm, hcs, hx⟩
  · omega
  · exact ⟨g, cap, rfl, hg, cur, hh, by simpa using hx⟩
theorem digN_pos_len {v : Nat} (h : 0 < v) : 0 < (digN v).length := by
  rw [digN_pos (by omega)]
  simp
/-- At the end of the pieces. -/
theorem write_end {w wr : World} {v : Nat} {vt : Value} {t : List Int} {k : Nat} (hv : 0 < v) (hk0 : k = 0) {ls : List Nat} (hk : ls.length = k) (ht : t ++ sig (digN (natVal ls)) = sig (digN v)) (hown : wr.ownsRow w.heap.size 5 1 vt t.length (bytesOf t)) :
    ∃ g' c', vt = .slice (some ⟨g', 0, none⟩) t.length c' ∧ w.heap.size ≤ g' ∧ Bytes wr g' (sig (digN v)) ∧ t.length = (sig (digN v)).length := by
  subst hk0
  have : ls = [] := List.eq_nil_of_length_eq_zero hk
  subst this
  rw [show natVal [] = 0 from rfl, digN_zero] at ht
  simp [sig] at ht
  have hl : 0 < t.length := by rw [ht]; simp; exact digN_pos_len hv
  obtain ⟨g', c', h1, h2, h3⟩ := own_bytes hown hl
  exact ⟨g', c', h1, h2, by rw [show sig (digN v) = t by rw [ht]; rfl]; exact h3, by rw [ht]; rfl⟩
/-- Behind a piece. -/
theorem digit_stop {w wr : World} {g c v T0 k m : Nat} {ls0 ys : List Nat} {vt : Value} {i p : Nat} {t : List Int} (hi : i ≤ 19) (hp : p < 10 ^ (19 - i)) (hx : i = 19 ∨ (p = 0 ∧ k = 0)) (hb : Blk wr g (ys.take k)) (ht : t ++ sig (digN (p + 10 ^ (19 - i) * natVal (ys.take k))) = sig (digN v)) (hT : t.length = T0 + i)
    (hown : wr.ownsRow w.heap.size 5 1 vt t.length (bytesOf t)) (hbel : Below w.heap.size w wr) (hg : w.heap.size ≤ g) (hk : trimW ys m = k) (hm : m = ys.length) (hw : Words ys) (hk4 : k < 4294967296) (hkc : k ≤ c) (h0 : T0 + (digN (natVal ls0)).length = (digN v).length) (hls0 : 0 < natVal ls0) :
    WriteInv w g c v (.slice (some ⟨g, 0, none⟩) k c) vt wr ∧ T0 < sliceLen vt := by
  have hkle : k ≤ ys.length := by rw [← hk, hm]; exact trimW_le _ _
  have hlen : (ys.take k).length = k := by simp; omega
  have hp0 : p = 0 := by
    rcases hx with rfl | ⟨h, _⟩
    · simpa using hp
    · exact h
  subst hp0
  have e : digN (0 + 10 ^ (19 - i) * natVal (ys.take k)) = digN (natVal (ys.take k)) := by
    rcases hx with rfl | ⟨_, rfl⟩
    · simp
    · simp [natVal]
  rw [e] at ht
  refine ⟨⟨ys.take k, t, by rw [hlen], ?_, fun d hd => hw d (List.mem_of_mem_take hd), hb, hg, ht, hown, hbel, by rw [hlen]; exact hk4, by rw [hlen]; exact hkc⟩, ?_⟩
  · have := trimW_pos (l := ys) (n := m) (by omega)
    rw [hlen, ← hk, trimW_val _ _ (by omega)]
    exact this
  · rw [own_sliceLen hown, hT]
    rcases hx with rfl | ⟨_, hk0⟩
    · omega
    · have hl := congrArg List.length ht
      subst hk0
      have := digN_pos_len hls0
      simp [sig, natVal, digN_zero] at hl
      omega

theorem blk_all {w : World} {g n c : Nat} {ys : List Nat} (h : Blk w g ys) (hl : ys.length = n) (hc : n ≤ c) : IsL w (some ⟨g, 0, none⟩) n c (u64s ys) := by
  have := h.isL (o := 0) (n := n) (c := c) (by omega) hc
  rw [List.drop_zero, ← hl, List.take_length] at this
  rw [← hl]
  exact this

theorem digit_ne {p j k n : Nat} {ys : List Nat} (hk : trimW ys n = k) (hn : ys.length = n) (h : ¬ (p = 0 ∧ k = 0)) : p + 10 ^ j * natVal (ys.take k) ≠ 0 := by
  intro h0
  obtain ⟨h1, h2⟩ : p = 0 ∧ 10 ^ j * natVal (ys.take k) = 0 := by omega
  have h3 : 0 < k := by omega
  have h4 := (trimW_pos (l := ys) (n := n) (by omega)).mp (by omega)
  rw [← trimW_val _ _ (by omega), hk] at h4
  rcases Nat.mul_eq_zero.mp h2 with h5 | h5
  · have := Nat.pow_pos (n := j) (show 0 < 10 by decide)
    omega
  · omega

theorem p_word {p i : Nat} (h : p < 10 ^ (19 - i)) : p < 18446744073709551616 := by
  have h1 : (10 : Nat) ^ (19 - i) ≤ 10 ^ 19 := Nat.pow_le_pow_right (by decide) (by omega)
  rw [pow19] at h1
  omega

theorem p_wrap {p i : Nat} (h : p < 10 ^ (19 - i)) : IntKind.u64.wrap ((p : Int) / 10) = ((p / 10 : Nat) : Int) := by
  have h1 := p_word h
  rw [wrap_u64] <;> omega

set_option maxRecDepth 100000 in
set_option maxHeartbeats 8000000 in
theorem writeDigits_any (A : Option Addr) (n c : Nat) (xs : List Nat) (w : World) (hl : IsL w A n c (u64s xs)) (hw : Words xs) (hv : 0 < natVal xs) (hn : n < 1000) :
    Calls Tryz.prog 76 #[.slice A n c] w fun e w' => e = .returned (.string (strOfNums (sig (digN (natVal xs))).reverse)) ∧ Below w.heap.size w w' := by
  have hlen : xs.length = n := by have := hl.1; simpa [u64s] using this
  have h0 : 0 < n := by
    rcases Nat.eq_zero_or_pos n with h | h
    · subst h
      have : xs = [] := List.eq_nil_of_length_eq_zero hlen
      subst this
      simp [natVal] at hv
    · exact h
  obtain ⟨v, hvv⟩ : ∃ v, natVal xs = v := ⟨_, rfl⟩
  have hbig : (digN v).length ≤ 20 * n := by
    refine digN_len (20 * n) v (Nat.lt_of_lt_of_le (by rw [← hvv]; exact natVal_lt hw) ?_)
    rw [hlen]
    unfold base
    have h1 : (18446744073709551616 : Nat) ^ n ≤ (10 ^ 20) ^ n := Nat.pow_le_pow_left (by decide) n
    rw [← Nat.pow_mul] at h1
    exact h1
  rw [hvv] at hv ⊢
  have Hv0 := Lib.hid hv
  have Hclone := Lib.hid (clone_some A n c xs w hl h0 (by omega))
  have Hv := Lib.hid hvv
  have Hw := Lib.hid hw
  have Hlen := Lib.hid hlen
  have t0 : ((n : Int) == 0) = false := by rw [beq_eq_false_iff_ne]; omega
  clear hl hvv hw hlen
  obtain ⟨i0, hi, hz0, hz1, hz2⟩ := info_parts info_u8
  go_enter Tryz.func76, Tryz.ntmps76
  go_wp2_with fail
  refine Hclone.out.mono ?_
  rintro e w1 ⟨g, c1, rfl, hnc, hc1, hg, hblk, hbel⟩
  have Hblk := Lib.hid hblk
  have Hbel := Lib.hid hbel
  have Hg := Lib.hid hg
  clear hblk hbel hg
  go_wp2_with (at_make; refine wpList_make_own _ rfl _ _ 32 rfl w1.heap.size 5 i0 (.int .u8 0) 1 Tryz.underlying32 hi hz0 hz1 _ _ _ (n * 20) rfl rfl (by omega) (by rw [hz2]; omega) (by unfold maxLen; omega) (Nat.le_refl _) ?_)
  intro w2 hown2 hgr2
  have Hst := Lib.hid (write_start (k := c1) Hlen.out h0 (by omega) hnc Hv.out hv Hw.out Hblk.out Hg.out Hbel.out hown2 hgr2)
  clear hown2 hgr2
  go_wp2_with fail
  go_loopw [3, 4] (fun vl vt wr => WriteInv w g c1 v vl vt wr) (fun _ vt _ => 20 * n - sliceLen vt)
  case atStart => exact Hst.out
  case round =>
    obtain ⟨ls, t, rfl, hpos, hws, hb, hg, ht, hown, hbel, hk1000, hkc⟩ := hrel
    have hlt : (t ++ sig (digN (natVal ls))).length = (sig (digN v)).length := by rw [ht]
    simp [sig] at hlt
    have htl : t.length ≤ 20 * n := by omega
    obtain ⟨k, hk⟩ : ∃ k, ls.length = k := ⟨_, rfl⟩
    rw [hk] at hk1000 hkc ⊢
    have Hpos := Lib.hid hpos
    have Hws := Lib.hid hws
    have Hb := Lib.hid hb
    have Hg := Lib.hid hg
    have Ht := Lib.hid ht
    have Hown := Lib.hid hown
    have Hbel := Lib.hid hbel
    have Hlt := Lib.hid hlt
    have hsl := own_sliceLen hown
    have Hsl := Lib.hid hsl
    have Hk := Lib.hid hk
    by_cases hk0 : k = 0
    · obtain ⟨g', c', rfl, hg', hby, htv⟩ := write_end Hv0.out hk0 hk ht hown
      have Hg' := Lib.hid hg'
      have Hby := Lib.hid hby
      have Htv := Lib.hid htv
      clear hpos hws hb hg ht hown hbel hlt hsl hk hg' hby htv
      subst hk0
      go_wp2_with fail
      refine (reverse_any g' _ c' _ _ Hby.out Htv.out.symm (by omega)).mono ?_
      rintro e w3 ⟨rfl, hb3, ho3⟩
      have cv := hb3.string (n := t.length) (c := c') (by rw [List.length_reverse]; exact Htv.out.symm)
      have Hfin := Lib.hid (Below.only Hbel.out ho3 Hg'.out Hbel.out.size)
      clear hb3 ho3
      go_wp2
      go_ret
      exact ⟨rfl, Hfin.out⟩
    · have hk1 : 0 < k := by omega
      clear hpos hws hb hg ht hown hbel hlt hsl hk
      go_wp2_with fail
      refine (divDigit_any g 0 k c1 ls 10000000000000000000 _ Hb.out (by have := Hk.out; omega) Hws.out (by decide) (by decide) hk1000 (by decide)).mono ?_
      rintro e w3 ⟨ys, p, rfl, hyl, hp, hyw, hyv, hb3, ho3⟩
      have e : put ls 0 ys = ys := by
        have := Hk.out
        simp [put, hyl, this]
      rw [e] at hb3
      have ev : natVal ls = natVal ys * 10000000000000000000 + p := by rw [← hyv, List.drop_zero, ← Hk.out, List.take_length]
      obtain ⟨k', hk'⟩ : ∃ k', trimW ys k = k' := ⟨_, rfl⟩
      have hkk : k' ≤ k := by rw [← hk']; exact trimW_le _ _
      have hdig := digit_start' (k := k') Hb.out Hg.out Ht.out Hown.out Hbel.out (by rw [hyl]; exact Hk.out.symm) hp ev hb3 ho3 (by rw [Hk.out]; exact hk')
      have htrim := trimNat_any (some ⟨g, 0, none⟩) k c1 ys w3 (blk_all hb3 hyl hkc) hk1000 hc1
      rw [hk'] at htrim
      have Htrim := Lib.hid htrim
      have Hdig := Lib.hid hdig
      have Hyl := Lib.hid hyl
      have Hk' := Lib.hid hk'
      have Hyw := Lib.hid hyw
      have Hev := Lib.hid ev
      have hpos1 := Hpos.out.mp (by rw [Hk.out]; exact hk1)
      have hdl := digN_pos_len hpos1
      clear hyl hp hyw hyv hb3 ho3 e ev hk' hdig htrim
      obtain ⟨T0, hT0⟩ : ∃ T0, t.length = T0 := ⟨_, rfl⟩
      rw [hT0] at Hdig htl Hlt Hsl
      have hT1 : T0 < 20 * n := by have := Hlt.out; omega
      have hT2 := Hsl.out
      have Hp1 := Lib.hid hpos1
      clear hpos1 hdl Hsl hT0
      go_wp2_with fail
      refine Htrim.out.mono ?_
      rintro e w4 ⟨rfl, rfl⟩
      obtain ⟨wo, hwo⟩ : ∃ wo : World, wo = wr := ⟨_, rfl⟩
      go_wp2_with fail
      go_loopw [4, 5, 6] (fun vt vp vi wr => DigitInv w g v T0 (ys.take k') vt vp vi wr) (fun _ _ vi _ => (19 - intOf vi).toNat)
      case atStart => exact Hdig.out
      case round =>
        obtain ⟨i, p', t', rfl, rfl, hi19, hp', hb', ht', hT', hown', hbel'⟩ := hrel
        have Hp := Lib.hid hp'
        have Hb' := Lib.hid hb'
        have Ht' := Lib.hid ht'
        have HT' := Lib.hid hT'
        have Hown' := Lib.hid hown'
        have Hbel' := Lib.hid hbel'
        by_cases hx : i = 19 ∨ (p' = 0 ∧ k' = 0)
        · have hstop := digit_stop (c := c1) (k := k') (m := k) (ls0 := ls) hi19 hp' hx hb' ht' hT' hown' hbel' Hg.out Hk'.out Hyl.out.symm Hyw.out (by omega) (by omega) Hlt.out Hp1.out
          have Hstop := Lib.hid hstop
          have hs2 := hstop.2
          clear hp' hb' ht' hT' hown' hbel' hstop
          by_cases hi : i = 19
          · subst hi
            go_wp2_with fail
            go_roundw
            case rel => exact Hstop.out.1
            case measure => omega
          · have hlt : i < 19 := by omega
            obtain ⟨rfl, rfl⟩ : p' = 0 ∧ k' = 0 := by omega
            go_wp2_with fail
            go_roundw
            case rel => exact Hstop.out.1
            case measure => omega
        · have hne : p' + 10 ^ (19 - i) * natVal (ys.take k') ≠ 0 := by
            have := digit_ne (p := p') (j := 19 - i) Hk'.out Hyl.out (by omega)
            exact this
          have Hne := Lib.hid hne
          have hsz' := hbel'.size
          have Hw10 := Lib.hid (p_wrap hp')
          have hlt : i < 19 := by omega
          clear hp' hb' ht' hown' hbel' hne
          by_cases hp0 : p' = 0
          · have hk2 : 0 < k' := by omega
            clear Hw10
            subst hp0
            go_wp2_with (at_builtin; refine wpList_append_own _ rfl _ _ 32 rfl w.heap.size 5 i0 (.int .u8 0) 1 1 Tryz.underlying32 hi hz0 hz1 hz2 rfl (by decide) _ _ _ rfl (Hown'.out.alloc _) ⟨wr.heap.size, 0, none⟩ 1 1 [.int .u8 (48)] rfl rfl (fun k u hu => by match k, hu with | 0, hu => simp at hu; subst hu; simp [Addr.add]) (fun u hu => by simp at hu; subst hu; rfl) (by unfold maxLen; omega) (by omega) (by simp; omega) ?_)
            intro v' w4 hownN hgrow _
            rw [← HT'.out] at hownN
            have hfin := digit_next hlt Hp.out Hb'.out Ht'.out Hne.out Hown'.out Hbel'.out (48) (by omega) HT'.out hownN hgrow
            have Hfin := Lib.hid hfin
            clear hfin hownN hgrow
            go_wp2
            go_roundw
            case rel => exact Hfin.out
            case measure => simp [intOf]; omega
          · have hp1 : 0 < p' := by omega
            have hw10 := Hw10.out
            go_wp2_with (at_builtin; refine wpList_append_own _ rfl _ _ 32 rfl w.heap.size 5 i0 (.int .u8 0) 1 1 Tryz.underlying32 hi hz0 hz1 hz2 rfl (by decide) _ _ _ rfl (Hown'.out.alloc _) ⟨wr.heap.size, 0, none⟩ 1 1 [.int .u8 (48 + (p' : Int) % 10)] rfl rfl (fun k u hu => by match k, hu with | 0, hu => simp at hu; subst hu; simp [Addr.add]) (fun u hu => by simp at hu; subst hu; rfl) (by unfold maxLen; omega) (by omega) (by simp; omega) ?_)
            intro v' w4 hownN hgrow _
            rw [← HT'.out] at hownN
            have hfin := digit_next hlt Hp.out Hb'.out Ht'.out Hne.out Hown'.out Hbel'.out (48 + (p' : Int) % 10) (by omega) HT'.out hownN hgrow
            have Hfin := Lib.hid hfin
            clear hfin hownN hgrow
            go_wp2
            go_roundw
            case rel => exact Hfin.out
            case measure => simp [intOf]; omega
end Go.Proofs.YtjcblcikipmojaaGreatDoor
