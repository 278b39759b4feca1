/- The law RationalLists: its walk. -/
import Derived.Test.YtjcblcikipmojaaGreatDoorLists2
namespace Go.Proofs.YtjcblcikipmojaaGreatDoor
open Go.RowKit

theorem own_keep {w w' : World} {base size n : Nat} {e : TypeId} {v : Value} {xs : List Value} (h : w.ownsRow base e size v n xs) (hb : Below w.heap.size w w') : w'.ownsRow base e size v n xs := by
  refine ⟨h.1, ?_⟩
  rcases h.2 with h1 | ⟨g, cap, cur, h1, hg, hh, hr⟩
  · exact .inl h1
  · refine .inr ⟨g, cap, cur, h1, hg, ?_, hr⟩
    rw [hb.block g (by
      rcases Nat.lt_or_ge g w.heap.size with h2 | h2
      · exact h2
      · rw [Array.getElem?_eq_none h2] at hh; cases hh)]
    exact hh
/-- The texts that the law has gathered. -/
def TextsR (w : World) (l : List ByteArray) (k : Nat) (v : Value) (wr : World) : Prop :=
  wr.ownsRow w.heap.size 31 1 v k (strsOf (l.take k)) ∧ (k = 0 → v = .slice none 0 0) ∧ Below w.heap.size w wr
theorem texts_next {w wr w2 : World} {l : List ByteArray} {k : Nat} {s : ByteArray} {v v' : Value} (hs : l[k]? = some s) (h : TextsR w l k v wr)
    (hown : w2.ownsRow w.heap.size 31 1 v' (k + 1) (strsOf (l.take k) ++ [.string s])) (hgr : (wr.alloc (.cells #[.string s] 31)).grownBy w2 v.ownBlock) : TextsR w l (k + 1) v' w2 := by
  have e : strsOf (l.take (k + 1)) = strsOf (l.take k) ++ [.string s] := by
    rw [List.take_add_one, hs]
    unfold strsOf
    rw [List.map_append]
    rfl
  have hb := h.2.2
  exact ⟨by rw [e]; exact hown, fun h => absurd h (Nat.succ_ne_zero k), (hb.alloc hb.size _).grown hgr (by simp; have := hb.size; omega) (fun j hj => own_ge h.1 hj)⟩
theorem TextsR.keep {w wr w2 : World} {l : List ByteArray} {k : Nat} {v : Value} (h : TextsR w l k v wr) (hb : Below wr.heap.size wr w2) : TextsR w l k v w2 :=
  ⟨own_keep h.1 hb, h.2.1, below_on h.2.2 hb⟩
set_option maxRecDepth 100000 in
set_option maxHeartbeats 8000000 in
theorem rationalLists_walk (A : Option Addr) (n c : Nat) (l : List ByteArray) (w : World) (h : SL w A n l) (hn : n ≤ 9223372036854775807) (hw : Good w) :
    Calls Tryz.prog 5 #[.slice A n c] w fun e w' => e = .returned (.bool true) ∧ Below w.heap.size w w' := by
  obtain ⟨i0, hi, hz0, hz1, hz2⟩ := info_parts info_num
  have Hw := Lib.hid (fun w' (h : Below w.heap.size w w') => hw.below h)
  have Hk := Lib.hid (known2_true w hw)
  have H := Lib.hid h
  clear hw h
  go_enter Tryz.func5, Tryz.ntmps5
  go_wp2_with fail
  refine Hk.out.mono ?_
  rintro e w1 ⟨rfl, h1⟩
  have k1 := Lib.hid h1
  clear h1
  by_cases hbig : 8 < n
  · go_wp2_with fail
    refine (known2_true w1 (Hw.out _ k1.out)).mono ?_
    rintro e w2 ⟨rfl, h2⟩
    have k2 := Lib.hid (below_on k1.out h2)
    clear h2 k1
    go_wp2
    go_ret
    exact ⟨rfl, k2.out⟩
  have hn8 : n ≤ 8 := by omega
  clear hbig hn
  have HC := Lib.hid (containsLong_any A n c l w1 (H.out.keep k1.out) (by omega))
  go_wp2_with fail
  refine HC.out.mono ?_
  rintro e w2 ⟨⟨b, rfl, hb⟩, rfl⟩
  cases b with
  | true =>
    go_wp2_with fail
    refine (known2_true w1 (Hw.out _ k1.out)).mono ?_
    rintro e w2 ⟨rfl, h2⟩
    have k2 := Lib.hid (below_on k1.out h2)
    clear h2 k1 hb
    go_wp2
    go_ret
    exact ⟨rfl, k2.out⟩
  | false =>
  have Hs := Lib.hid (hb rfl)
  have Hst := Lib.hid (show TextsR w l 0 (.slice none 0 0) w1 from ⟨⟨rfl, .inl ⟨rfl, rfl⟩⟩, fun _ => rfl, k1.out⟩)
  clear hb
  go_wp2_with fail
  go_loopw [26, 3, 4] (fun vk vt ve wr => ∃ k : Nat, k ≤ n ∧ vk = .int .i64 (k : Nat) ∧ ve = .int .i64 (errL (l.take k)) ∧ TextsR w l k vt wr) (fun vk _ _ _ => n - (intOf vk).toNat)
  case atStart => exact ⟨0, Nat.zero_le _, rfl, rfl, Hst.out⟩
  case round =>
    obtain ⟨k, hk, rfl, rfl, ht⟩ := hrel
    have Ht := Lib.hid ht
    have hsz := ht.2.2.size
    clear ht
    obtain ⟨E, hE⟩ : ∃ E, errL (l.take k) = E := ⟨_, rfl⟩
    rw [hE]
    by_cases hlt : k < n
    · obtain ⟨s, b, o, hsk, rfl, _, hc⟩ := (H.out.keep Ht.out.2.2).at_ hlt
      have Hsk := Lib.hid hsk
      have Hup := Lib.hid (errL_up hsk)
      rw [hE] at Hup
      have HC := Lib.hid (fun w' => refCheckE_any s 40 w' (by have := Hs.out s (List.mem_of_getElem? hsk); omega) (by have := Hs.out s (List.mem_of_getElem? hsk); omega) (by decide))
      clear hsk hE
      go_wp2_with (at_builtin; refine wpList_append_own _ rfl _ _ 39 rfl w.heap.size 31 i0 (.string ⟨#[]⟩) 1 16 Tryz.underlying39 hi hz0 hz1 hz2 rfl (by decide) _ _ _ rfl (Ht.out.1.alloc _) ⟨wr.heap.size, 0, none⟩ 1 1 [.string s] rfl rfl (fun k u hu => by match k, hu with | 0, hu => simp at hu; subst hu; simp [Addr.add]) (fun u hu => by simp at hu; subst hu; rfl) (by unfold maxLen; omega) (by omega) (by simp; omega) ?_)
      intro v' w4 hownN hgrow _
      have Ht2 := Lib.hid (texts_next Hsk.out Ht.out hownN hgrow)
      clear hownN hgrow
      by_cases h0 : E = 0
      · subst h0
        rw [if_pos rfl] at Hup
        go_wp2_with fail
        refine (HC.out _).mono ?_
        rintro e w5 ⟨rfl, h5⟩
        have Ht3 := Lib.hid (Ht2.out.keep h5)
        clear h5
        go_wp2
        go_roundw
        case rel => exact ⟨k + 1, by omega, by go_num, by rw [Hup.out], Ht3.out⟩
        case measure => simp [intOf]; omega
      · rw [if_neg h0] at Hup
        have t0 : (E == 0) = false := by rw [beq_eq_false_iff_ne]; exact h0
        go_wp2
        go_roundw
        case rel => exact ⟨k + 1, by omega, by go_num, by rw [Hup.out], Ht2.out⟩
        case measure => simp [intOf]; omega
    · obtain rfl : k = n := by omega
      have hl : l.take k = l := List.take_of_length_le (by rw [H.out.1]; exact Nat.le_refl _)
      have ht := Ht.out
      unfold TextsR at ht
      rw [hl] at ht hE
      obtain ⟨ht1, ht2, ht3⟩ := ht
      obtain ⟨A', c', rfl, hsl, _, _⟩ := SL.of_own ht1 H.out.1
      have hA : (A' = none ∧ c' = 0) ∨ 0 < k := by
        rcases Nat.eq_zero_or_pos k with h0 | h0
        · have e := ht2 h0
          injection e with e1 e2 e3
          exact .inl ⟨e1, e3⟩
        · exact .inr h0
      have HE := Lib.hid hE
      have T := Lib.hid hsl
      have K := Lib.hid ht3
      have HCl := Lib.hid (cloneS_any A' k c' l wr hsl hA (by omega))
      clear ht1 ht2 ht3 hsl hA hl hE Ht
      go_wp2_with fail
      refine HCl.out.mono ?_
      rintro e w3 ⟨⟨B, d, rfl, hsl⟩, h3⟩
      have G := Lib.hid hsl
      have T := Lib.hid (T.out.keep h3)
      have K := Lib.hid (below_on K.out h3)
      have HP := Lib.hid (listP_any B k d l w3 hsl hn8 Hs.out (Hw.out _ K.out))
      clear hsl h3
      go_wp2_with fail
      refine HP.out.mono ?_
      rintro e w4 ⟨⟨v4, he4, hv4, hr4⟩, h4⟩
      rw [HE.out] at he4 hv4 hr4
      subst he4
      have G := Lib.hid (G.out.keep h4)
      have T := Lib.hid (T.out.keep h4)
      have K := Lib.hid (below_on K.out h4)
      have V4 := Lib.hid hv4
      have R4' := Lib.hid hr4
      have HP := Lib.hid (listR_any B k d l w4 G.out hn8 Hs.out (Hw.out _ K.out))
      clear h4 hv4 hr4
      go_wp2_with fail
      refine HP.out.mono ?_
      rintro e w5 ⟨⟨v5, he5, hv5, hr5⟩, h5⟩
      rw [HE.out] at he5 hv5 hr5
      subst he5
      have G := Lib.hid (G.out.keep h5)
      have T := Lib.hid (T.out.keep h5)
      have K := Lib.hid (below_on K.out h5)
      have HQ := Lib.hid (equalS_any B A' k d c' l w5 G.out T.out (by omega))
      by_cases h0 : E = 0
      · subst h0
        obtain ⟨B4, rfl, hr⟩ := R4'.out rfl
        obtain ⟨B5, rfl, hr'⟩ := hr5 rfl
        have R := Lib.hid (hr.keep h5)
        have R' := Lib.hid hr'
        clear hr hr' h5 hv5 hr5
        go_wp2_with fail
        refine HQ.out.mono ?_
        rintro e w6 ⟨rfl, h6⟩
        have T := Lib.hid (T.out.keep h6)
        have R := Lib.hid (R.out.keep h6)
        have R' := Lib.hid (R'.out.keep h6)
        have K := Lib.hid (below_on K.out h6)
        have HN := Lib.hid (numbers_any B4 k k l w6 R.out hn8 (Hw.out _ K.out))
        clear h6
        go_wp2_with fail
        refine HN.out.mono ?_
        rintro e w7 ⟨⟨C, rfl, hsl⟩, h7⟩
        have T := Lib.hid (T.out.keep h7)
        have R' := Lib.hid (R'.out.keep h7)
        have K := Lib.hid (below_on K.out h7)
        have HQ := Lib.hid (equalS_any C A' k k c' l w7 hsl T.out (by omega))
        clear hsl h7
        go_wp2_with fail
        refine HQ.out.mono ?_
        rintro e w8 ⟨rfl, h8⟩
        have T := Lib.hid (T.out.keep h8)
        have R' := Lib.hid (R'.out.keep h8)
        have K := Lib.hid (below_on K.out h8)
        have HN := Lib.hid (numbers_any B5 k k l w8 R'.out hn8 (Hw.out _ K.out))
        clear h8
        go_wp2_with fail
        refine HN.out.mono ?_
        rintro e w9 ⟨⟨C2, rfl, hsl⟩, h9⟩
        have T := Lib.hid (T.out.keep h9)
        have K := Lib.hid (below_on K.out h9)
        have HQ := Lib.hid (equalS_any C2 A' k k c' l w9 hsl T.out (by omega))
        clear hsl h9
        go_wp2_with fail
        refine HQ.out.mono ?_
        rintro e w10 ⟨rfl, h10⟩
        have K := Lib.hid (below_on K.out h10)
        clear h10
        go_wp2
        go_ret
        exact ⟨rfl, K.out⟩
      · obtain rfl := V4.out h0
        obtain rfl := hv5 h0
        have t0 : (E == 0) = false := by rw [beq_eq_false_iff_ne]; exact h0
        clear h5 hv5 hr5
        go_wp2_with fail
        refine HQ.out.mono ?_
        rintro e w6 ⟨rfl, h6⟩
        have K := Lib.hid (below_on K.out h6)
        clear h6
        go_wp2
        go_ret
        exact ⟨rfl, K.out⟩
end Go.Proofs.YtjcblcikipmojaaGreatDoor
