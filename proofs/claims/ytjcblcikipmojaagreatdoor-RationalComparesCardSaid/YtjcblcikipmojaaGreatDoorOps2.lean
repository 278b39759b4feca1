/- addNatural, subNatural, mulNatural. -/
import Derived.Test.YtjcblcikipmojaaGreatDoorOps
namespace Go.Proofs.YtjcblcikipmojaaGreatDoor
open Go.RowKit

theorem put_all {xs zs : List Nat} (h : zs.length = xs.length) : put xs 0 zs = zs := by
  unfold put
  rw [List.take_zero, List.nil_append, Nat.zero_add, h, List.drop_length, List.append_nil]
theorem put_zeros {xs : List Nat} {n k : Nat} (h : xs.length = n) : put (List.replicate (n + k) 0) 0 xs = xs ++ List.replicate k 0 := by
  unfold put
  rw [List.take_zero, List.nil_append, Nat.zero_add, h, List.drop_replicate, Nat.add_sub_cancel_left]
theorem natVal_padded (xs : List Nat) (k : Nat) : natVal (xs ++ List.replicate k 0) = natVal xs := by
  rw [natVal_append, natVal_zeros, Nat.mul_zero, Nat.add_zero]
theorem words_padded {xs : List Nat} (h : Words xs) (k : Nat) : Words (xs ++ List.replicate k 0) := words_append h (words_zeros k)
/-- Zeros that make has made: a block. -/
theorem made_blk {w w1 : World} {N : Nat} (hown : w1.ownsRow w.heap.size 106 1 (.slice (some ⟨w.heap.size, 0, none⟩) N N) N (madeCells #[.int .u64 0] N).toList) (h0 : 0 < N) : Blk w1 w.heap.size (List.replicate N 0) := by
  rw [zeros_u64] at hown
  obtain ⟨g, c, e, _, _, _, hb⟩ := Blk.of_own hown h0
  injection e with e1 e2 e3
  injection e1 with e1
  injection e1 with e1
  rw [e1]
  exact hb

set_option maxRecDepth 100000 in
set_option maxHeartbeats 4000000 in
theorem addNat_ge {B B' : Nat} {A A' : Option Addr} {n c n' c' m m' : Nat} {xs ys : List Nat} (w : World) (hx : IsNat B w A n c xs m) (hy : IsNat B' w A' n' c' ys m') (hlt : n' ≤ n) (h0 : 0 < n) (hm : n < 900) :
    Calls Tryz.prog 140 #[.slice A n c, .slice A' n' c'] w (NewNat (m + m') w) := by
  obtain ⟨i0, hi, hz0, hz1, hz2⟩ := info_parts info_u64
  have hle := hx.isl.2.1
  have hle' := hy.isl.2.1
  have hcc := hx.cap
  have hcc' := hy.cap
  have hxl := hx.size
  have hyl := hy.size
  have Hx := Lib.hid hx
  have Hy := Lib.hid hy
  have Hxl := Lib.hid hxl
  have Hyl := Lib.hid hyl
  clear hx hy hxl hyl
  go_enter Tryz.func140, Tryz.ntmps140
  go_wp2_with (at_make; refine wpList_make_full _ rfl _ _ 81 rfl w.heap.size 106 i0 (.int .u64 0) 1 Tryz.underlying81 hi hz0 hz1 _ _ _ _ (n + 1) rfl rfl (by simp) (by simp) (by rw [hz2]; omega) (by unfold maxLen; omega) (Nat.le_refl _) ?_)
  intro w1 hown hgrow
  have hblk := made_blk hown (by omega)
  have b1 := (Below.refl w.heap.size w).grown hgrow (Nat.le_refl _) (by simp)
  have hi1 := Hx.out.isl.keep b1
  obtain ⟨w2, hcopy, hblk2, honly2⟩ := copy_words (N := n + 1) (C := n + 1) hblk (by simp) hi1 h0 (by omega)
  rw [put_zeros Hxl.out] at hblk2
  have b2 := Below.only b1 honly2 (Nat.le_refl _) b1.size
  have hadd := addInto_any w.heap.size 0 (n + 1) (n + 1) n' c' A' (xs ++ List.replicate 1 0) ys w2 hblk2 (Hy.out.isl.keep b2)
    (fun hk a e => by
      obtain ⟨b', o', e2, hb', _⟩ := Hy.out.isl.2.2 hk
      rw [e2] at e; injection e with e; subst e; exact Nat.ne_of_lt hb')
    (by rw [List.length_append, List.length_replicate, Hxl.out]; omega) (by omega) (words_padded Hx.out.words 1) Hy.out.words (by omega) (by omega) (by
      rw [List.drop_zero, List.take_of_length_le (by rw [List.length_append, List.length_replicate, Hxl.out]; exact Nat.le_refl _), natVal_padded]
      have h1 := natVal_lt Hx.out.words
      have h2 := natVal_lt Hy.out.words
      rw [Hxl.out] at h1
      rw [Hyl.out] at h2
      have h3 := base_le (show n' ≤ n by omega)
      rw [base_succ]
      omega)
  have Hadd := Lib.hid hadd
  have B2 := Lib.hid b2
  clear hown hgrow hblk b1 hi1 hblk2 honly2 b2 hadd
  go_wp2_with fail
  refine Hadd.out.mono ?_
  rintro e w3 ⟨rfl, ⟨zs, hzl, hzw, hzv, hzb⟩, hon⟩
  rw [put_all (by rw [hzl, List.length_append, List.length_replicate, Hxl.out])] at hzb
  rw [List.drop_zero, List.take_of_length_le (by rw [List.length_append, List.length_replicate, Hxl.out]; exact Nat.le_refl _), natVal_padded, Hx.out.val, Hy.out.val] at hzv
  have hisl := hzb.isL (o := 0) (n := n + 1) (c := n + 1) (by omega) (Nat.le_refl _)
  rw [List.drop_zero, List.take_of_length_le (by omega)] at hisl
  have Htrim := Lib.hid (trimNat_any _ _ _ zs w3 hisl (by omega) (by omega))
  have b3 := Below.only B2.out hon (Nat.le_refl _) B2.out.size
  have hnew := nat_of_blk (B := w.heap.size) (c := n + 1) hzb hzl (Nat.le_refl _) (by omega) (by omega) hzw (show natVal zs = m + m' by omega) (Nat.le_refl _)
  have Hnew := Lib.hid hnew
  have B3 := Lib.hid b3
  clear hzb hzl hzw hzv hisl hon b3 hnew
  go_wp2_with fail
  refine Htrim.out.mono ?_
  rintro e w4 ⟨rfl, rfl⟩
  go_wp2
  go_ret
  exact ⟨_, _, _, _, rfl, Hnew.out, B3.out⟩
set_option maxRecDepth 100000 in
set_option maxHeartbeats 4000000 in
theorem addNat_lt {B B' : Nat} {A A' : Option Addr} {n c n' c' m m' : Nat} {xs ys : List Nat} (w : World) (hx : IsNat B w A n c xs m) (hy : IsNat B' w A' n' c' ys m') (hlt : n < n') (h0 : 0 < n') (hm : n' < 900) :
    Calls Tryz.prog 140 #[.slice A n c, .slice A' n' c'] w (NewNat (m + m') w) := by
  obtain ⟨i0, hi, hz0, hz1, hz2⟩ := info_parts info_u64
  have hle := hx.isl.2.1
  have hle' := hy.isl.2.1
  have hcc := hx.cap
  have hcc' := hy.cap
  have hxl := hx.size
  have hyl := hy.size
  have Hx := Lib.hid hx
  have Hy := Lib.hid hy
  have Hxl := Lib.hid hxl
  have Hyl := Lib.hid hyl
  clear hx hy hxl hyl
  go_enter Tryz.func140, Tryz.ntmps140
  go_wp2_with (at_make; refine wpList_make_full _ rfl _ _ 81 rfl w.heap.size 106 i0 (.int .u64 0) 1 Tryz.underlying81 hi hz0 hz1 _ _ _ _ (n' + 1) rfl rfl (by simp) (by simp) (by rw [hz2]; omega) (by unfold maxLen; omega) (Nat.le_refl _) ?_)
  intro w1 hown hgrow
  have hblk := made_blk hown (by omega)
  have b1 := (Below.refl w.heap.size w).grown hgrow (Nat.le_refl _) (by simp)
  have hi1 := Hy.out.isl.keep b1
  obtain ⟨w2, hcopy, hblk2, honly2⟩ := copy_words (N := n' + 1) (C := n' + 1) hblk (by simp) hi1 h0 (by omega)
  rw [put_zeros Hyl.out] at hblk2
  have b2 := Below.only b1 honly2 (Nat.le_refl _) b1.size
  have hadd := addInto_any w.heap.size 0 (n' + 1) (n' + 1) n c A (ys ++ List.replicate 1 0) xs w2 hblk2 (Hx.out.isl.keep b2)
    (fun hk a e => by
      obtain ⟨b', o', e2, hb', _⟩ := Hx.out.isl.2.2 hk
      rw [e2] at e; injection e with e; subst e; exact Nat.ne_of_lt hb')
    (by rw [List.length_append, List.length_replicate, Hyl.out]; omega) (by omega) (words_padded Hy.out.words 1) Hx.out.words (by omega) (by omega) (by
      rw [List.drop_zero, List.take_of_length_le (by rw [List.length_append, List.length_replicate, Hyl.out]; exact Nat.le_refl _), natVal_padded]
      have h1 := natVal_lt Hy.out.words
      have h2 := natVal_lt Hx.out.words
      rw [Hyl.out] at h1
      rw [Hxl.out] at h2
      have h3 := base_le (show n ≤ n' by omega)
      rw [base_succ]
      omega)
  have Hadd := Lib.hid hadd
  have B2 := Lib.hid b2
  clear hown hgrow hblk b1 hi1 hblk2 honly2 b2 hadd
  go_wp2_with fail
  refine Hadd.out.mono ?_
  rintro e w3 ⟨rfl, ⟨zs, hzl, hzw, hzv, hzb⟩, hon⟩
  rw [put_all (by rw [hzl, List.length_append, List.length_replicate, Hyl.out])] at hzb
  rw [List.drop_zero, List.take_of_length_le (by rw [List.length_append, List.length_replicate, Hyl.out]; exact Nat.le_refl _), natVal_padded, Hy.out.val, Hx.out.val] at hzv
  have hisl := hzb.isL (o := 0) (n := n' + 1) (c := n' + 1) (by omega) (Nat.le_refl _)
  rw [List.drop_zero, List.take_of_length_le (by omega)] at hisl
  have Htrim := Lib.hid (trimNat_any _ _ _ zs w3 hisl (by omega) (by omega))
  have b3 := Below.only B2.out hon (Nat.le_refl _) B2.out.size
  have hnew := nat_of_blk (B := w.heap.size) (c := n' + 1) hzb hzl (Nat.le_refl _) (by omega) (by omega) hzw (show natVal zs = m + m' by omega) (Nat.le_refl _)
  have Hnew := Lib.hid hnew
  have B3 := Lib.hid b3
  clear hzb hzl hzw hzv hisl hon b3 hnew
  go_wp2_with fail
  refine Htrim.out.mono ?_
  rintro e w4 ⟨rfl, rfl⟩
  go_wp2
  go_ret
  exact ⟨_, _, _, _, rfl, Hnew.out, B3.out⟩

theorem NewNat.cast {m m' : Nat} {w w' : World} {e : Ending} (h : NewNat m w e w') (hm : m = m') : NewNat m' w e w' := hm ▸ h
theorem addNat_any {B B' : Nat} {A A' : Option Addr} {n c n' c' m m' : Nat} {xs ys : List Nat} (w : World) (hx : IsNat B w A n c xs m) (hy : IsNat B' w A' n' c' ys m') (h0 : 0 < n ∨ 0 < n') (hm : n < 900) (hm' : n' < 900) :
    Calls Tryz.prog 140 #[.slice A n c, .slice A' n' c'] w (NewNat (m + m') w) := by
  rcases Nat.lt_or_ge n n' with h | h
  · exact addNat_lt w hx hy h (by omega) hm'
  · exact addNat_ge w hx hy h (by omega) hm

set_option maxRecDepth 100000 in
set_option maxHeartbeats 4000000 in
theorem subNat_any {B B' : Nat} {A A' : Option Addr} {n c n' c' m m' : Nat} {xs ys : List Nat} (w : World) (hx : IsNat B w A n c xs m) (hy : IsNat B' w A' n' c' ys m') (hle : m' ≤ m) (h0 : 0 < n) (hm : n < 900) :
    Calls Tryz.prog 141 #[.slice A n c, .slice A' n' c'] w (NewNat (m - m') w) := by
  have hxl := hx.size
  have hyl := hy.size
  have hnn : n' ≤ n := by
    have h1 := natVal_lt hx.words
    rw [hxl, hx.val] at h1
    exact hy.len_le (by omega)
  have Hclone := Lib.hid (clone_some A n c xs w hx.isl h0 (by omega))
  have Hx := Lib.hid hx
  have Hy := Lib.hid hy
  have Hxl := Lib.hid hxl
  have hcn := hx.isl.2.1
  have hcc := hx.cap
  clear hx hy hxl hyl
  go_enter Tryz.func141, Tryz.ntmps141
  go_wp2_with fail
  refine Hclone.out.mono ?_
  rintro e w1 ⟨g, d, rfl, hnd, hdm, hg, hblk, b1⟩
  have hsub := subInto_any g 0 n d n' c' A' xs ys w1 hblk (Hy.out.isl.keep b1)
    (fun hk a e => by
      obtain ⟨b', o', e2, hb', _⟩ := Hy.out.isl.2.2 hk
      rw [e2] at e; injection e with e; subst e
      show b' ≠ g
      omega)
    (by rw [Hxl.out]; omega) hnn Hx.out.words Hy.out.words (by omega) (by omega) (by
      rw [List.drop_zero, List.take_of_length_le (by rw [Hxl.out]; exact Nat.le_refl _), Hx.out.val, Hy.out.val]
      exact hle)
  have Hsub := Lib.hid hsub
  have B1 := Lib.hid b1
  clear hblk b1 hsub
  go_wp2_with fail
  refine Hsub.out.mono ?_
  rintro e w3 ⟨rfl, ⟨zs, hzl, hzw, hzv, hzb⟩, hon⟩
  rw [put_all (by rw [hzl, Hxl.out])] at hzb
  rw [List.drop_zero, List.take_of_length_le (by rw [Hxl.out]; exact Nat.le_refl _), Hx.out.val, Hy.out.val] at hzv
  have hisl := hzb.isL (o := 0) (n := n) (c := d) (by omega) hnd
  rw [List.drop_zero, List.take_of_length_le (by omega)] at hisl
  have Htrim := Lib.hid (trimNat_any _ _ _ zs w3 hisl (by omega) (by omega))
  have b3 := Below.only B1.out hon hg B1.out.size
  have hnew := nat_of_blk (B := w.heap.size) (c := d) hzb hzl hnd (by omega) (by omega) hzw (show natVal zs = m - m' by omega) hg
  have Hnew := Lib.hid hnew
  have B3 := Lib.hid b3
  clear hzb hzl hzw hzv hisl hon b3 hnew
  go_wp2_with fail
  refine Htrim.out.mono ?_
  rintro e w4 ⟨rfl, rfl⟩
  go_wp2
  go_ret
  exact ⟨_, _, _, _, rfl, Hnew.out, B3.out⟩
end Go.Proofs.YtjcblcikipmojaaGreatDoor
