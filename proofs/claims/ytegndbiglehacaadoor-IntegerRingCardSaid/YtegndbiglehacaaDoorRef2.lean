/- The reference's order and Compare. -/
import Derived.Test.YtegndbiglehacaaDoorRef1
namespace Go.Proofs.YtegndbiglehacaaDoor
open Go.RowKit

/-- Digits in memory, without zeros at the end. -/
structure IsDig (w : World) (A : Option Addr) (n c : Nat) (xs : List Int) (m : Nat) : Prop where
  isl : IsL w A n c (ints xs)
  cap : c ≤ 9223372036854775807
  len : n < 4294967296
  dig : Dig xs
  tight : xs = digN m
theorem ints_length (xs : List Int) : (ints xs).length = xs.length := by simp [ints]
theorem IsDig.size {w : World} {A : Option Addr} {n c m : Nat} {xs : List Int} (h : IsDig w A n c xs m) : xs.length = n := by
  have := h.isl.1; rwa [ints_length] at this
theorem IsDig.val {w : World} {A : Option Addr} {n c m : Nat} {xs : List Int} (h : IsDig w A n c xs m) : dval xs = m := by
  rw [h.tight, dval_digN]
theorem IsDig.at {w : World} {A : Option Addr} {n c m : Nat} {xs : List Int} (h : IsDig w A n c xs m) (h0 : 0 < n) : ∃ b o, A = some ⟨b, o, none⟩ ∧ b < w.heap.size ∧ ∀ k : Nat, k < n → w.cell? ⟨b, o + k, none⟩ = some (.int .i64 (xs.getD k 0)) := by
  obtain ⟨b, o, e, hb, hc⟩ := h.isl.2.2 h0
  exact ⟨b, o, e, hb, fun k hk => hc k _ (by have := h.size; simp [ints, show k < xs.length by omega])⟩
theorem IsDig.keep {w w' : World} {A : Option Addr} {n c m : Nat} {xs : List Int} (h : IsDig w A n c xs m) (hb : Below w.heap.size w w') : IsDig w' A n c xs m :=
  ⟨h.isl.keep hb, h.cap, h.len, h.dig, h.tight⟩
theorem getD_dig {l : List Int} (h : Dig l) (k : Nat) : 0 ≤ l.getD k 0 ∧ l.getD k 0 ≤ 9 := by
  by_cases hk : k < l.length
  · have e : l.getD k 0 = l[k] := by simp [List.getD, hk]
    rw [e]; exact h _ (List.getElem_mem hk)
  · have e : l.getD k 0 = 0 := by simp [List.getD, List.getElem?_eq_none (by omega : l.length ≤ k)]
    rw [e]; decide
theorem cmpD_len {xs ys : List Int} {m : Nat} (hx : Dig xs) (hy : ys = digN m) (h : xs.length < ys.length) : dval xs < dval ys := by
  subst hy
  have hm : 0 < m := by
    rcases Nat.eq_zero_or_pos m with h0 | h0
    · subst h0; rw [digN_zero] at h; simp at h
    · exact h0
  rw [dval_digN]
  exact Nat.lt_of_lt_of_le (dval_lt hx) (Nat.le_trans (ten_le (by omega)) (digN_ge hm))
theorem cmpD_step {xs ys : List Int} {k : Nat} {x y : Int} (hx : Dig xs) (hk : k < xs.length) (hk2 : k < ys.length) (hd : xs.drop (k + 1) = ys.drop (k + 1)) (ex : xs.getD k 0 = x) (ey : ys.getD k 0 = y) (h : x < y) : dval xs < dval ys := by
  have e1 : xs[k] = x := by rw [← ex]; simp [List.getD, hk]
  have e2 : ys[k] = y := by rw [← ey]; simp [List.getD, hk2]
  have hx0 := (getD_dig hx k).1
  rw [ex] at hx0
  rw [dval_split xs k, dval_split ys k, List.drop_eq_getElem_cons hk, List.drop_eq_getElem_cons hk2, hd, e1, e2]
  have h1 := dval_lt (dig_take hx k)
  have l1 : (xs.take k).length = k := by simp; omega
  have l2 : (ys.take k).length = k := by simp; omega
  rw [l1] at h1 ⊢
  rw [l2, dval, dval]
  have h2 : ten k * (x.toNat + 10 * dval (ys.drop (k + 1)) + 1) ≤ ten k * (y.toNat + 10 * dval (ys.drop (k + 1))) := Nat.mul_le_mul_left _ (by omega)
  rw [Nat.mul_add _ _ 1] at h2
  omega
theorem dropD_same {xs ys : List Int} {k : Nat} {x : Int} (hk : k < xs.length) (hk2 : k < ys.length) (hd : xs.drop (k + 1) = ys.drop (k + 1)) (ex : xs.getD k 0 = x) (ey : ys.getD k 0 = x) : xs.drop k = ys.drop k := by
  have e1 : xs[k] = x := by rw [← ex]; simp [List.getD, hk]
  have e2 : ys[k] = x := by rw [← ey]; simp [List.getD, hk2]
  rw [List.drop_eq_getElem_cons hk, List.drop_eq_getElem_cons hk2, hd, e1, e2]

set_option maxRecDepth 100000 in
set_option maxHeartbeats 4000000 in
theorem order_any {A A' : Option Addr} {n c n' c' m m' : Nat} {xs ys : List Int} (w : World) (hx : IsDig w A n c xs m) (hy : IsDig w A' n' c' ys m') :
    Calls Tryd.prog 55 #[.slice A n c, .slice A' n' c'] w fun e w' => e = .returned (.int .i64 (cmpN m m')) ∧ Below w.heap.size w w' := by
  have hn := hx.len
  have hn' := hy.len
  have hs := hx.size
  have hs' := hy.size
  have hv := hx.val
  have hv' := hy.val
  have hle := hx.isl.2.1
  have hle' := hy.isl.2.1
  by_cases h1 : n < n'
  · have he := cmpN_lt (cmpD_len hx.dig hy.tight (by omega))
    rw [hv, hv'] at he
    rw [he]
    have t0 : ((n : Int) == (n' : Int)) = false := by rw [beq_eq_false_iff_ne]; omega
    clear hx hy hs hs' hv hv' he
    go_enter Tryd.func55, Tryd.ntmps55
    go_wp2
    go_ret
    exact ⟨rfl, Below.refl _ _⟩
  · by_cases h2 : n' < n
    · have he := cmpN_gt (cmpD_len hy.dig hx.tight (by omega))
      rw [hv, hv'] at he
      rw [he]
      have t0 : ((n : Int) == (n' : Int)) = false := by rw [beq_eq_false_iff_ne]; omega
      clear hx hy hs hs' hv hv' he
      go_enter Tryd.func55, Tryd.ntmps55
      go_wp2
      go_ret
      exact ⟨rfl, Below.refl _ _⟩
    · obtain rfl : n = n' := by omega
      clear h1 h2
      rcases Nat.eq_zero_or_pos n with h0 | h0
      · subst h0
        have e1 : xs = [] := List.eq_nil_of_length_eq_zero hs
        have e2 : ys = [] := List.eq_nil_of_length_eq_zero hs'
        subst e1 e2
        have he : cmpN m m' = 0 := cmpN_eq (by rw [← hv, ← hv'])
        rw [he]
        clear hx hy hv hv' he hs hs'
        go_enter Tryd.func55, Tryd.ntmps55
        go_wp2_with fail
        refine wp_loop_rounds 1 ?_
        rw [rounds_succ]
        go_wp2
        go_ret
        exact ⟨rfl, Below.refl _ _⟩
      · obtain ⟨b, o, rfl, hb, hcx⟩ := hx.at h0
        obtain ⟨b', o', rfl, hb', hcy⟩ := hy.at h0
        have Hcx := Lib.hid hcx
        have Hcy := Lib.hid hcy
        have Hwx := Lib.hid hx.dig
        have Hwy := Lib.hid hy.dig
        have Hs := Lib.hid hs
        have Hs' := Lib.hid hs'
        have Hv := Lib.hid hv
        have Hv' := Lib.hid hv'
        clear hx hy hcx hcy hs hs' hv hv'
        go_enter Tryd.func55, Tryd.ntmps55
        go_wp2_with fail
        go_loopw [5] (fun i wr => ∃ k : Nat, k ≤ n ∧ i = .int .i64 ((k : Int) - 1) ∧ xs.drop k = ys.drop k ∧ Below w.heap.size w wr) (fun i _ => (intOf i + 1).toNat)
        case atStart => exact ⟨n, Nat.le_refl _, rfl, by rw [List.drop_eq_nil_of_le (by rw [Hs.out]; exact Nat.le_refl _), List.drop_eq_nil_of_le (by rw [Hs'.out]; exact Nat.le_refl _)], Below.refl _ _⟩
        case round =>
          obtain ⟨k, hk, rfl, hd, hbel⟩ := hrel
          have Hbel := Lib.hid hbel
          have Hd := Lib.hid hd
          clear hd
          cases k with
          | zero =>
            have he : cmpN m m' = 0 := cmpN_eq (by rw [← Hv.out, ← Hv'.out]; have := Hd.out; simp at this; rw [this])
            have He := Lib.hid he
            clear he
            clear hbel
            go_wp2
            go_ret
            exact ⟨by rw [He.out]; rfl, Hbel.out⟩
          | succ k =>
            have cx := (hbel.cell (p := ⟨b, o + k, none⟩) hb).trans (Hcx.out k (by omega))
            have cy := (hbel.cell (p := ⟨b', o' + k, none⟩) hb').trans (Hcy.out k (by omega))
            clear hbel
            obtain ⟨x, hx⟩ : ∃ x, xs.getD k 0 = x := ⟨_, rfl⟩
            obtain ⟨y, hy⟩ : ∃ y, ys.getD k 0 = y := ⟨_, rfl⟩
            rw [hx] at cx
            rw [hy] at cy
            have Hx := Lib.hid hx
            have Hy := Lib.hid hy
            clear hx hy
            have hx0 := (getD_dig Hwx.out k).1
            have hy0 := (getD_dig Hwy.out k).1
            have hx9 := (getD_dig Hwx.out k).2
            have hy9 := (getD_dig Hwy.out k).2
            rw [Hx.out] at hx0 hx9
            rw [Hy.out] at hy0 hy9
            by_cases h1 : x < y
            · have he := cmpN_lt (cmpD_step Hwx.out (by have := Hs.out; omega) (by have := Hs'.out; omega) Hd.out Hx.out Hy.out h1)
              rw [Hv.out, Hv'.out] at he
              have He := Lib.hid he
              clear he
              go_wp2
              go_quiet (fail)
              go_wp2
              go_ret
              exact ⟨by rw [He.out]; rfl, by repeat (first | exact Hbel.out | refine below_drewN ?_ _)⟩
            · by_cases h2 : y < x
              · have he := cmpN_gt (cmpD_step Hwy.out (by have := Hs'.out; omega) (by have := Hs.out; omega) Hd.out.symm Hy.out Hx.out h2)
                rw [Hv.out, Hv'.out] at he
                have He := Lib.hid he
                clear he
                go_wp2
                go_quiet (fail)
                go_wp2
                go_quiet (fail)
                go_wp2
                go_ret
                exact ⟨by rw [He.out]; rfl, by repeat (first | exact Hbel.out | refine below_drewN ?_ _)⟩
              · obtain rfl : x = y := by omega
                have Hnew := Lib.hid (dropD_same (by have := Hs.out; omega) (by have := Hs'.out; omega) Hd.out Hx.out Hy.out)
                go_wp2
                go_quiet (fail)
                go_wp2
                go_quiet (fail)
                go_wp2
                exact ⟨⟨k, by omega, by go_num, Hnew.out, by repeat (first | exact Hbel.out | refine below_drewN ?_ _)⟩, by simp [intOf] <;> omega⟩

theorem refDigits_at (z : Int) (w : World) (hs : (txt z).size ≤ 5000) :
    Calls Tryd.prog 54 #[.string (txt z)] w fun e w' => ∃ A n c, e = .returned (.slice A n c) ∧ IsDig w' A n c (digN z.natAbs) z.natAbs ∧ n ≤ 5001 ∧ Below w.heap.size w w' := by
  refine (refDigits_any z w hs).mono ?_
  rintro e w' ⟨A, c, rfl, hl, hc, hb⟩
  have hlen : (digN z.natAbs).length ≤ 5000 := by
    by_cases h0 : z = 0
    · subst h0; rw [show (0 : Int).natAbs = 0 from rfl, digN_zero]; simp
    · have := hs
      rw [txt_ne h0, strOfNums_size, List.length_append, List.length_map, List.length_reverse] at this
      omega
  exact ⟨A, _, c, rfl, ⟨hl, hc, by omega, dig_digN _, rfl⟩, by omega, hb⟩
theorem sgn_cases (z : Int) : (z < 0 ∧ sgn z = -1) ∨ (z = 0 ∧ sgn z = 0) ∨ (0 < z ∧ sgn z = 1) := by
  unfold sgn
  rcases Int.lt_trichotomy z 0 with h | h | h
  · exact .inl ⟨h, if_pos h⟩
  · exact .inr (.inl ⟨h, by rw [if_neg (by omega), if_neg (by omega)]⟩)
  · exact .inr (.inr ⟨h, by rw [if_neg (by omega), if_pos h]⟩)
set_option maxRecDepth 100000 in
set_option maxHeartbeats 4000000 in
theorem refCompare_any (z k : Int) (w : World) (hs : (txt z).size ≤ 5000) (ht : (txt k).size ≤ 5000) :
    Calls Tryd.prog 27 #[.string (txt z), .string (txt k)] w fun e w' => e = .returned (.int .i64 (cmpZ z k)) ∧ Below w.heap.size w w' := by
  have Hsz := Lib.hid (fun w => refSign_any z w hs)
  have Hsk := Lib.hid (fun w => refSign_any k w ht)
  have Hdz := Lib.hid (fun w => refDigits_at z w hs)
  have Hdk := Lib.hid (fun w => refDigits_at k w ht)
  have hsz := sgn_cases z
  have hsk := sgn_cases k
  obtain ⟨S, hS⟩ : ∃ S, txt z = S := ⟨_, rfl⟩
  obtain ⟨T, hT⟩ : ∃ T, txt k = T := ⟨_, rfl⟩
  rw [hS] at Hsz Hdz hs ⊢
  rw [hT] at Hsk Hdk ht ⊢
  clear hS hT
  obtain ⟨x, hx⟩ : ∃ x, sgn z = x := ⟨_, rfl⟩
  obtain ⟨y, hy⟩ : ∃ y, sgn k = y := ⟨_, rfl⟩
  rw [hx] at Hsz hsz
  rw [hy] at Hsk hsk
  clear hx hy
  by_cases h1 : x < y
  · have He := Lib.hid (show cmpZ z k = -1 by unfold cmpZ; rw [if_pos (by omega)])
    clear hsz hsk
    go_enter Tryd.func27, Tryd.ntmps27
    go_wp2_with fail
    refine (Hsz.out _).mono ?_
    rintro e w1 ⟨rfl, rfl⟩
    go_wp2_with fail
    refine (Hsk.out _).mono ?_
    rintro e w1 ⟨rfl, rfl⟩
    go_wp2
    go_ret
    exact ⟨by rw [He.out]; rfl, Below.refl _ _⟩
  · by_cases h2 : y < x
    · have He := Lib.hid (show cmpZ z k = 1 by unfold cmpZ; rw [if_neg (by omega), if_pos (by omega)])
      clear hsz hsk
      go_enter Tryd.func27, Tryd.ntmps27
      go_wp2_with fail
      refine (Hsz.out _).mono ?_
      rintro e w1 ⟨rfl, rfl⟩
      go_wp2_with fail
      refine (Hsk.out _).mono ?_
      rintro e w1 ⟨rfl, rfl⟩
      go_wp2
      go_ret
      exact ⟨by rw [He.out]; rfl, Below.refl _ _⟩
    · obtain rfl : x = y := by omega
      clear h1 h2
      by_cases hneg : x < 0
      · have He := Lib.hid (cmpZ_neg (z := z) (k := k) (by omega) (by omega))
        clear hsz hsk
        go_enter Tryd.func27, Tryd.ntmps27
        go_wp2_with fail
        refine (Hsz.out _).mono ?_
        rintro e w1 ⟨rfl, rfl⟩
        go_wp2_with fail
        refine (Hsk.out _).mono ?_
        rintro e w1 ⟨rfl, rfl⟩
        go_wp2_with fail
        refine (Hdk.out _).mono ?_
        rintro e w1 ⟨A, n, c, rfl, hd1, hn1, h1⟩
        have K1 := Lib.hid h1
        have D1 := Lib.hid hd1
        clear h1 hd1
        go_wp2_with fail
        refine (Hdz.out _).mono ?_
        rintro e w2 ⟨A', n', c', rfl, hd2, hn2, h2⟩
        have K2 := Lib.hid (K1.out.trans (h2.mono K1.out.size))
        have D2 := Lib.hid hd2
        have D3 := Lib.hid (D1.out.keep h2)
        clear h2 hd2
        go_wp2_with fail
        refine (order_any _ D3.out D2.out).mono ?_
        rintro e w3 ⟨rfl, h3⟩
        have K3 := Lib.hid (K2.out.trans (h3.mono K2.out.size))
        clear h3
        go_wp2
        go_ret
        exact ⟨by rw [← He.out]; rfl, K3.out⟩
      · have He := Lib.hid (cmpZ_pos (z := z) (k := k) (by omega) (by omega))
        clear hsz hsk
        go_enter Tryd.func27, Tryd.ntmps27
        go_wp2_with fail
        refine (Hsz.out _).mono ?_
        rintro e w1 ⟨rfl, rfl⟩
        go_wp2_with fail
        refine (Hsk.out _).mono ?_
        rintro e w1 ⟨rfl, rfl⟩
        go_wp2_with fail
        refine (Hdz.out _).mono ?_
        rintro e w1 ⟨A, n, c, rfl, hd1, hn1, h1⟩
        have K1 := Lib.hid h1
        have D1 := Lib.hid hd1
        clear h1 hd1
        go_wp2_with fail
        refine (Hdk.out _).mono ?_
        rintro e w2 ⟨A', n', c', rfl, hd2, hn2, h2⟩
        have K2 := Lib.hid (K1.out.trans (h2.mono K1.out.size))
        have D2 := Lib.hid hd2
        have D3 := Lib.hid (D1.out.keep h2)
        clear h2 hd2
        go_wp2_with fail
        refine (order_any _ D3.out D2.out).mono ?_
        rintro e w3 ⟨rfl, h3⟩
        have K3 := Lib.hid (K2.out.trans (h3.mono K2.out.size))
        clear h3
        go_wp2
        go_ret
        exact ⟨by rw [← He.out]; rfl, K3.out⟩
end Go.Proofs.YtegndbiglehacaaDoor
