/- The reference's Sign, digits and order. -/
import Derived.Test.YtegndbiglehacaaDoorDval
import Derived.Test.YtegndbiglehacaaDoorCmp
namespace Go.Proofs.YtegndbiglehacaaDoor
open Go.RowKit

theorem bytes_ne {s : ByteArray} {n : Nat} (hs : 0 < s.size) (h : (s[0]).toNat = n) (h48 : n ≠ 48) : (s.toList == [48]) = false := by
  rw [ByteArray.toList_eq, beq_eq_false_iff_ne]
  intro e
  have hh := head_at hs
  rw [e] at hh
  simp at hh
  apply h48
  rw [← h, ← hh]
  rfl

set_option maxHeartbeats 4000000 in
theorem refSign_neg (s : ByteArray) (w : World) (hs : 0 < s.size) (hn : (s[0]).toNat = 45) (hne : (s.toList == [48]) = false) (_hsz : s.size ≤ 5000) :
    Calls Tryd.prog 28 #[.string s] w fun e w' => e = .returned (.int .i64 (-1)) ∧ w = w' := by
  go_enter Tryd.func28, Tryd.ntmps28
  go_wp2
  go_ret
  exact ⟨rfl, rfl⟩
set_option maxHeartbeats 4000000 in
theorem refSign_pos (s : ByteArray) (w : World) (n : Nat) (hs : 0 < s.size) (hn : (s[0]).toNat = n) (hne : (s.toList == [48]) = false) (h45 : ((n : Int) == 45) = false) (_hsz : s.size ≤ 5000) :
    Calls Tryd.prog 28 #[.string s] w fun e w' => e = .returned (.int .i64 1) ∧ w = w' := by
  go_enter Tryd.func28, Tryd.ntmps28
  go_wp2
  go_ret
  exact ⟨rfl, rfl⟩
set_option maxHeartbeats 4000000 in
theorem refSign_any (z : Int) (w : World) (hsz : (txt z).size ≤ 5000) :
    Calls Tryd.prog 28 #[.string (txt z)] w fun e w' => e = .returned (.int .i64 (sgn z)) ∧ w = w' := by
  rcases Int.lt_trichotomy z 0 with h | h | h
  · obtain ⟨n, hs, hn, h1, _⟩ := txt_first (z := z) (by omega)
    have h45 := h1 h
    rw [show sgn z = -1 by unfold sgn; rw [if_pos h]]
    exact refSign_neg _ w hs (hn.trans h45) (bytes_ne hs hn (by omega)) hsz
  · subst h
    rw [txt_zero]
    go_enter Tryd.func28, Tryd.ntmps28
    go_wp2
    go_ret
    exact ⟨rfl, rfl⟩
  · obtain ⟨n, hs, hn, _, h2⟩ := txt_first (z := z) (by omega)
    have h49 := h2 h
    rw [show sgn z = 1 by unfold sgn; rw [if_neg (by omega), if_pos h]]
    exact refSign_pos _ w n hs hn (bytes_ne hs hn (by omega)) (by rw [beq_eq_false_iff_ne]; omega) hsz

def DigitsInv (w0 : World) (s : ByteArray) (v i : Value) (wr : World) : Prop :=
  ∃ j : Nat, j ≤ s.size ∧ i = .int .i64 ((j : Int) - 1) ∧ wr.ownsRow w0.heap.size 3 1 v (dl (s.data.toList.drop j)).length (ints (dl (s.data.toList.drop j))) ∧ Below w0.heap.size w0 wr
theorem drop_byte {s : ByteArray} {j : Nat} (hj : j < s.size) : s.data.toList.drop j = s[j] :: s.data.toList.drop (j + 1) := by
  rw [List.drop_eq_getElem_cons (by rw [str_len]; exact hj)]
  congr 1
theorem digits_skip {w0 wr : World} {s : ByteArray} {j y : Nat} {v : Value} (hj : j < s.size) (hy : (s[j]).toNat = y) (h45 : y = 45) (hown : wr.ownsRow w0.heap.size 3 1 v (dl (s.data.toList.drop (j + 1))).length (ints (dl (s.data.toList.drop (j + 1))))) (hbel : Below w0.heap.size w0 wr) :
    DigitsInv w0 s v (.int .i64 ((j : Int) - 1)) wr := by
  have e : dl (s.data.toList.drop j) = dl (s.data.toList.drop (j + 1)) := by
    rw [drop_byte hj, byte_eq (n := 45) (by decide) (hy.trans h45)]
    exact dl_minus _
  exact ⟨j, by omega, rfl, by rw [e]; exact hown, hbel⟩
theorem digits_step {w0 wr w1 : World} {s : ByteArray} {j y : Nat} {u v' : Value} {x : Int} (hj : j < s.size) (hy : (s[j]).toNat = y) (h45 : y ≠ 45) (hx : x = (y : Int) - 48) (hown : wr.ownsRow w0.heap.size 3 1 u (dl (s.data.toList.drop (j + 1))).length (ints (dl (s.data.toList.drop (j + 1)))))
    (hown' : w1.ownsRow w0.heap.size 3 1 v' ((dl (s.data.toList.drop (j + 1))).length + 1) (ints (dl (s.data.toList.drop (j + 1))) ++ [.int .i64 x]))
    (hgrow : (wr.alloc (.cells #[.int .i64 x] 3)).grownBy w1 u.ownBlock) (hbel : Below w0.heap.size w0 wr) : DigitsInv w0 s v' (.int .i64 ((j : Int) - 1)) w1 := by
  have e : dl (s.data.toList.drop j) = dl (s.data.toList.drop (j + 1)) ++ [x] := by
    rw [drop_byte hj, dl_digit (by intro e; apply h45; rw [← hy, e]; rfl), hy, hx]
  refine ⟨j, by omega, rfl, ?_, (hbel.alloc hbel.size _).grown hgrow (by simp; have := hbel.size; omega) (fun k hk => own_ge hown hk)⟩
  rw [e]
  simpa [ints] using hown'
theorem dl_len (l : List UInt8) : (dl l).length ≤ l.length := by
  unfold dl
  rw [List.length_map, List.length_reverse]
  exact List.length_filter_le _ _

set_option maxRecDepth 100000 in
set_option maxHeartbeats 4000000 in
theorem digits_loop (s : ByteArray) (w : World) (hs : s.size ≤ 5000) (hd : Dig (dl s.data.toList)) :
    Calls Tryd.prog 54 #[.string s] w fun e w' => ∃ A c, e = .returned (.slice A (digN (dval (dl s.data.toList))).length c) ∧ IsL w' A (digN (dval (dl s.data.toList))).length c (ints (digN (dval (dl s.data.toList)))) ∧ c ≤ 9223372036854775807 ∧ Below w.heap.size w w' := by
  obtain ⟨i0, hi, hz0, hz1, hz2⟩ := info_parts info_int
  have Hd := Lib.hid hd
  clear hd
  go_enter Tryd.func54, Tryd.ntmps54
  go_wp2_with fail
  go_loopw [3, 4] (fun v i wr => DigitsInv w s v i wr) (fun _ i _ => (intOf i + 1).toNat)
  case atStart =>
    refine ⟨s.size, Nat.le_refl _, rfl, ?_, Below.refl _ _⟩
    rw [List.drop_eq_nil_of_le (by rw [str_len]; exact Nat.le_refl _)]
    exact World.ownsRow_nil _ _ _ _
  case round =>
    obtain ⟨j, hj, rfl, hown, hbel⟩ := hrel
    have hsz := hbel.size
    have hlen : (dl (s.data.toList.drop j)).length ≤ 5000 := by
      have := dl_len (s.data.toList.drop j)
      rw [List.length_drop, str_len] at this
      omega
    have Hown := Lib.hid hown
    have Hbel := Lib.hid hbel
    clear hown hbel
    cases j with
    | zero =>
      rw [List.drop_zero] at Hown hlen
      obtain ⟨A, c, rfl, hisl, hc⟩ := own_isL Hown.out
      have Hi := Lib.hid hisl
      have Ht := Lib.hid (trim_any A _ c _ wr hisl (by omega) hc)
      clear hisl
      go_wp2_with fail
      refine Ht.out.mono ?_
      rintro e w2 ⟨rfl, rfl⟩
      have hcut := Hi.out.cut (trimTo_le (dl s.data.toList) _)
      have e1 : (ints (dl s.data.toList)).take (trimTo (dl s.data.toList) (dl s.data.toList).length) = ints (digN (dval (dl s.data.toList))) := by
        unfold ints
        rw [← List.map_take, trim_digN Hd.out]
      rw [e1, trim_len Hd.out] at hcut
      have Hcut := Lib.hid hcut
      have Hlen := Lib.hid (trim_len Hd.out)
      clear hcut e1
      go_wp2
      go_ret
      exact ⟨A, c, ret_slice Hlen.out, Hcut.out, hc, Hbel.out⟩
    | succ j =>
      have hjs : j < s.size := by omega
      obtain ⟨y, hy⟩ : ∃ y, (s[j]).toNat = y := ⟨_, rfl⟩
      have hy1 : y < 256 := by rw [← hy]; exact UInt8.toNat_lt _
      have Hy := Lib.hid hy
      by_cases h45 : y = 45
      · have Hfin := Lib.hid (digits_skip hjs hy h45 Hown.out Hbel.out)
        subst h45
        go_wp2
        go_roundw
        case rel => exact Hfin.out
        case measure => simp [intOf] <;> omega
      · have t0 : ((y : Int) == 45) = false := by rw [beq_eq_false_iff_ne]; omega
        go_wp2_with (at_builtin; refine wpList_append_own _ rfl _ _ 65 rfl w.heap.size 3 i0 (.int .i64 0) 1 8 Tryd.underlying65 hi hz0 hz1 hz2 rfl (by decide) _ _ _ rfl (Hown.out.alloc _) ⟨wr.heap.size, 0, none⟩ 1 1 [.int .i64 ((y : Int) - 48)] rfl rfl (fun k u hu => by match k, hu with | 0, hu => simp at hu; subst hu; simp [Addr.add]) (fun u hu => by simp at hu; subst hu; rfl) (by unfold maxLen; omega) (by omega) (by simp; omega) ?_)
        intro v' w1 hown' hgrow _
        have hfin := digits_step hjs Hy.out h45 rfl Hown.out hown' hgrow Hbel.out
        have Hfin := Lib.hid hfin
        clear hfin hown' hgrow
        go_wp2
        go_roundw
        case rel => exact Hfin.out
        case measure => simp [intOf] <;> omega
theorem refDigits_any (z : Int) (w : World) (hs : (txt z).size ≤ 5000) :
    Calls Tryd.prog 54 #[.string (txt z)] w fun e w' => ∃ A c, e = .returned (.slice A (digN z.natAbs).length c) ∧ IsL w' A (digN z.natAbs).length c (ints (digN z.natAbs)) ∧ c ≤ 9223372036854775807 ∧ Below w.heap.size w w' := by
  have h := digits_loop (txt z) w hs (dl_txt z).1
  rw [(dl_txt z).2] at h
  exact h
end Go.Proofs.YtegndbiglehacaaDoor
