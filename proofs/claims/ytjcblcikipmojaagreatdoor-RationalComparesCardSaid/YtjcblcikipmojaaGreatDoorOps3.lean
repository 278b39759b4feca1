/- mulNatural. -/
import Derived.Test.YtjcblcikipmojaaGreatDoorOps2
namespace Go.Proofs.YtjcblcikipmojaaGreatDoor
open Go.RowKit

theorem mul_step {P rs xs ys : List Nat} {k n n' d q : Nat} (hP : P.length = n + n') (hk : k < n') (hr : rs.length = n) (hv : natVal (P.take (k + n)) = natVal xs * natVal (ys.take k)) (h : natVal rs + base n * q = natVal ((P.drop k).take n) + natVal xs * d) (hd : ys.getD k 0 = d) :
    natVal ((put P k (rs ++ [q])).take (k + 1 + n)) = natVal xs * natVal (ys.take (k + 1)) := by
  have e : (put P k (rs ++ [q])).take (k + 1 + n) = P.take k ++ (rs ++ [q]) := by
    unfold put
    exact List.take_left' (by simp; omega)
  have lk : (P.take k).length = k := by simp; omega
  have e2 : natVal (P.take (k + n)) = natVal (P.take k) + base k * natVal ((P.drop k).take n) := by
    have h1 := natVal_split (P.take (k + n)) k
    rw [List.take_take, Nat.min_eq_left (by omega), lk, List.drop_take, Nat.add_sub_cancel_left] at h1
    exact h1
  rw [e, natVal_append, natVal_snoc, lk, hr, h, take_up0 hd, Nat.mul_add, Nat.mul_add, ← hv, e2, ← Nat.add_assoc]
  rw [Nat.mul_left_comm (base k) (natVal xs) d]
def MulInv (w0 : World) (n n' : Nat) (xs ys : List Nat) (vi : Value) (wr : World) : Prop :=
  ∃ (k : Nat) (P : List Nat), k ≤ n' ∧ vi = .int .i64 (k : Nat) ∧ P.length = n + n' ∧ Words P ∧ natVal (P.take (k + n)) = natVal xs * natVal (ys.take k) ∧ Blk wr w0.heap.size P ∧ Below w0.heap.size w0 wr
set_option maxRecDepth 100000 in
set_option maxHeartbeats 4000000 in
theorem mulNat_ge {B B' : Nat} {A A' : Option Addr} {n c n' c' m m' : Nat} {xs ys : List Nat} (w : World) (hx : IsNat B w A n c xs m) (hy : IsNat B' w A' n' c' ys m') (hlt : n' ≤ n) (h0 : 0 < n') (h48 : n' < 48) (hm : n < 900) :
    Calls Tryz.prog 121 #[.slice A n c, .slice A' n' c'] w (NewNat (m * m') w) := by
  obtain ⟨i0, hi, hz0, hz1, hz2⟩ := info_parts info_u64
  have hle := hx.isl.2.1
  have hle' := hy.isl.2.1
  have hcc := hx.cap
  have hcc' := hy.cap
  obtain ⟨bx, ox, rfl, hbx, _⟩ := hx.at (by omega)
  obtain ⟨b, o, rfl, hb, _, hcell⟩ := hy.at h0
  have Hc := Lib.hid hcell
  have Hxl := Lib.hid hx.size
  have Hyl := Lib.hid hy.size
  have Hx := Lib.hid hx
  have Hy := Lib.hid hy
  have t0 : ((n' : Int) == 0) = false := by rw [beq_eq_false_iff_ne]; omega
  clear hx hy hcell
  go_enter Tryz.func121, Tryz.ntmps121
  go_wp2_with (at_make; refine wpList_make_full _ rfl _ _ 81 rfl w.heap.size 106 i0 (.int .u64 0) 1 Tryz.underlying81 hi hz0 hz1 _ _ _ _ (n + n') rfl rfl (by simp) (by simp) (by rw [hz2]; omega) (by unfold maxLen; omega) (Nat.le_refl _) ?_)
  intro w1 hown hgrow
  have hblk := made_blk hown (by omega)
  have b1 := (Below.refl w.heap.size w).grown hgrow (Nat.le_refl _) (by simp)
  have Hblk := Lib.hid hblk
  have B1 := Lib.hid b1
  clear hown hgrow hblk b1
  go_wp2_with fail
  go_loopw [31] (fun vi wr => MulInv w n n' xs ys vi wr) (fun vi _ => n' - (intOf vi).toNat)
  case atStart =>
    refine ⟨0, List.replicate (n + n') 0, Nat.zero_le _, rfl, by simp, words_zeros _, ?_, Hblk.out, B1.out⟩
    rw [List.take_replicate, natVal_zeros]
    rfl
  case round =>
    obtain ⟨j, P, hj, rfl, hP, hPw, hPv, hPb, hbel⟩ := hrel
    have HPv := Lib.hid hPv
    have HPb := Lib.hid hPb
    have HPw := Lib.hid hPw
    have Hbel := Lib.hid hbel
    have HP := Lib.hid hP
    by_cases hjk : j < n'
    · have cb := (hbel.cell (p := ⟨b, o + j, none⟩) hb).trans (Hc.out j hjk)
      have hd1 := word_at Hy.out.words j
      obtain ⟨d, hd⟩ : ∃ d, ys.getD j 0 = d := ⟨_, rfl⟩
      rw [hd] at cb hd1
      have Hd := Lib.hid hd
      have Hprod := Lib.hid (addProduct_any w.heap.size j (n + n' - j) (n + n' - j) n c _ P xs d wr.drew (hPb.drewN 1) (Hx.out.isl.keep hbel.drew) (fun a e => by injection e with e; subst e; exact Nat.ne_of_lt hbx) (by omega) (by omega) hPw Hx.out.words hd1 (by omega) (by omega) (by omega))
      clear hPv hPb hPw hP hbel hd
      go_wp2_with fail
      go_region_with (go_at_call 147; refine Hprod.out.mono ?_; rintro e w2 ⟨rs, q, rfl, hrl, hq, hrw, hrv, hrb, hon⟩; have hput := put_length (xs := P) (o := j) (ys := rs) (by rw [hrl, HP.out]; omega); have hfz := hrb.frozen (j + n); have hcl := hrb.cell (i := j + n) (by rw [hput, HP.out]; omega))
      all_goals
        have hstep := mul_step HP.out hjk hrl HPv.out hrv Hd.out
        have hset : (put P j rs).set (j + n) q = put P j (rs ++ [q]) := by
          rw [← hrl]
          exact put_set (by rw [hrl, HP.out]; omega)
        have hnb := hrb.set_ q (i := j + n) (by rw [hput, HP.out]; omega)
        rw [hset] at hnb
        have hbel2 := (Below.only Hbel.out.drew hon (Nat.le_refl _) Hbel.out.drew.size).setCell (p := ⟨w.heap.size, j + n, none⟩) (Nat.le_refl w.heap.size) (.int .u64 (q : Int))
        have hlen2 : (put P j (rs ++ [q])).length = n + n' := by rw [put_length (by rw [List.length_append, hrl, List.length_singleton, HP.out]; omega), HP.out]
        have hwd : Words (put P j (rs ++ [q])) := words_append (words_append (words_take HPw.out j) (words_snoc hrw hq)) (words_drop HPw.out _)
        have Hfin := Lib.hid (show MulInv w n n' xs ys (.int .i64 ((j + 1 : Nat) : Int)) _ from ⟨j + 1, put P j (rs ++ [q]), hjk, rfl, hlen2, hwd, hstep, hnb, hbel2⟩)
        clear hstep hset hnb hbel2 hlen2 hwd hrl hrw hrv hrb hon hput hfz hcl
        go_wp2_with fail
        exact ⟨Hfin.out, by simp [intOf] <;> omega⟩
    · obtain rfl : j = n' := by omega
      have hisl := hPb.isL (o := 0) (n := n + j) (c := n + j) (by omega) (Nat.le_refl _)
      rw [List.drop_zero, List.take_of_length_le (by omega)] at hisl
      have Htrim := Lib.hid (trimNat_any _ _ _ P wr hisl (by omega) (by omega))
      have hval : natVal P = m * m' := by
        rw [List.take_of_length_le (by omega), List.take_of_length_le (by rw [Hyl.out]; exact Nat.le_refl _), Hx.out.val, Hy.out.val] at hPv
        exact hPv
      have Hnew := Lib.hid (nat_of_blk (B := w.heap.size) (c := n + j) hPb hP (Nat.le_refl _) (by omega) (by omega) hPw hval (Nat.le_refl _))
      clear hPb hP hPw hPv hval hisl hbel
      go_wp2_with fail
      refine Htrim.out.mono ?_
      rintro e w4 ⟨rfl, rfl⟩
      go_wp2
      go_ret
      exact ⟨_, _, _, _, rfl, Hnew.out, Hbel.out⟩
set_option maxRecDepth 100000 in
set_option maxHeartbeats 4000000 in
theorem mulNat_lt {B B' : Nat} {A A' : Option Addr} {n c n' c' m m' : Nat} {xs ys : List Nat} (w : World) (hx : IsNat B w A n c xs m) (hy : IsNat B' w A' n' c' ys m') (hlt : n < n') (h0 : 0 < n) (h48 : n < 48) (hm : n' < 900) :
    Calls Tryz.prog 121 #[.slice A n c, .slice A' n' c'] w (NewNat (m' * m) w) := by
  obtain ⟨i0, hi, hz0, hz1, hz2⟩ := info_parts info_u64
  have hle := hx.isl.2.1
  have hle' := hy.isl.2.1
  have hcc := hx.cap
  have hcc' := hy.cap
  obtain ⟨bx, ox, rfl, hbx, _⟩ := hy.at (by omega)
  obtain ⟨b, o, rfl, hb, _, hcell⟩ := hx.at h0
  have Hc := Lib.hid hcell
  have Hxl := Lib.hid hy.size
  have Hyl := Lib.hid hx.size
  have Hx := Lib.hid hx
  have Hy := Lib.hid hy
  have t0 : ((n : Int) == 0) = false := by rw [beq_eq_false_iff_ne]; omega
  clear hx hy hcell
  go_enter Tryz.func121, Tryz.ntmps121
  go_wp2_with (at_make; refine wpList_make_full _ rfl _ _ 81 rfl w.heap.size 106 i0 (.int .u64 0) 1 Tryz.underlying81 hi hz0 hz1 _ _ _ _ (n' + n) rfl rfl (by simp) (by simp) (by rw [hz2]; omega) (by unfold maxLen; omega) (Nat.le_refl _) ?_)
  intro w1 hown hgrow
  have hblk := made_blk hown (by omega)
  have b1 := (Below.refl w.heap.size w).grown hgrow (Nat.le_refl _) (by simp)
  have Hblk := Lib.hid hblk
  have B1 := Lib.hid b1
  clear hown hgrow hblk b1
  go_wp2_with fail
  go_loopw [31] (fun vi wr => MulInv w n' n ys xs vi wr) (fun vi _ => n - (intOf vi).toNat)
  case atStart =>
    refine ⟨0, List.replicate (n' + n) 0, Nat.zero_le _, rfl, by simp, words_zeros _, ?_, Hblk.out, B1.out⟩
    rw [List.take_replicate, natVal_zeros]
    rfl
  case round =>
    obtain ⟨j, P, hj, rfl, hP, hPw, hPv, hPb, hbel⟩ := hrel
    have HPv := Lib.hid hPv
    have HPb := Lib.hid hPb
    have HPw := Lib.hid hPw
    have Hbel := Lib.hid hbel
    have HP := Lib.hid hP
    by_cases hjk : j < n
    · have cb := (hbel.cell (p := ⟨b, o + j, none⟩) hb).trans (Hc.out j hjk)
      have hd1 := word_at Hx.out.words j
      obtain ⟨d, hd⟩ : ∃ d, xs.getD j 0 = d := ⟨_, rfl⟩
      rw [hd] at cb hd1
      have Hd := Lib.hid hd
      have Hprod := Lib.hid (addProduct_any w.heap.size j (n' + n - j) (n' + n - j) n' c' _ P ys d wr.drew (hPb.drewN 1) (Hy.out.isl.keep hbel.drew) (fun a e => by injection e with e; subst e; exact Nat.ne_of_lt hbx) (by omega) (by omega) hPw Hy.out.words hd1 (by omega) (by omega) (by omega))
      clear hPv hPb hPw hP hbel hd
      go_wp2_with fail
      go_region_with (go_at_call 147; refine Hprod.out.mono ?_; rintro e w2 ⟨rs, q, rfl, hrl, hq, hrw, hrv, hrb, hon⟩; have hput := put_length (xs := P) (o := j) (ys := rs) (by rw [hrl, HP.out]; omega); have hfz := hrb.frozen (j + n'); have hcl := hrb.cell (i := j + n') (by rw [hput, HP.out]; omega))
      all_goals
        have hstep := mul_step HP.out hjk hrl HPv.out hrv Hd.out
        have hset : (put P j rs).set (j + n') q = put P j (rs ++ [q]) := by
          rw [← hrl]
          exact put_set (by rw [hrl, HP.out]; omega)
        have hnb := hrb.set_ q (i := j + n') (by rw [hput, HP.out]; omega)
        rw [hset] at hnb
        have hbel2 := (Below.only Hbel.out.drew hon (Nat.le_refl _) Hbel.out.drew.size).setCell (p := ⟨w.heap.size, j + n', none⟩) (Nat.le_refl w.heap.size) (.int .u64 (q : Int))
        have hlen2 : (put P j (rs ++ [q])).length = n' + n := by rw [put_length (by rw [List.length_append, hrl, List.length_singleton, HP.out]; omega), HP.out]
        have hwd : Words (put P j (rs ++ [q])) := words_append (words_append (words_take HPw.out j) (words_snoc hrw hq)) (words_drop HPw.out _)
        have Hfin := Lib.hid (show MulInv w n' n ys xs (.int .i64 ((j + 1 : Nat) : Int)) _ from ⟨j + 1, put P j (rs ++ [q]), hjk, rfl, hlen2, hwd, hstep, hnb, hbel2⟩)
        clear hstep hset hnb hbel2 hlen2 hwd hrl hrw hrv hrb hon hput hfz hcl
        go_wp2_with fail
        exact ⟨Hfin.out, by simp [intOf] <;> omega⟩
    · obtain rfl : j = n := by omega
      have hisl := hPb.isL (o := 0) (n := n' + j) (c := n' + j) (by omega) (Nat.le_refl _)
      rw [List.drop_zero, List.take_of_length_le (by omega)] at hisl
      have Htrim := Lib.hid (trimNat_any _ _ _ P wr hisl (by omega) (by omega))
      have hval : natVal P = m' * m := by
        rw [List.take_of_length_le (by omega), List.take_of_length_le (by rw [Hyl.out]; exact Nat.le_refl _), Hy.out.val, Hx.out.val] at hPv
        exact hPv
      have Hnew := Lib.hid (nat_of_blk (B := w.heap.size) (c := n' + j) hPb hP (Nat.le_refl _) (by omega) (by omega) hPw hval (Nat.le_refl _))
      clear hPb hP hPw hPv hval hisl hbel
      go_wp2_with fail
      refine Htrim.out.mono ?_
      rintro e w4 ⟨rfl, rfl⟩
      go_wp2
      go_ret
      exact ⟨_, _, _, _, rfl, Hnew.out, Hbel.out⟩

theorem mulNat_zero_ge {B B' : Nat} {A A' : Option Addr} {n c c' m m' : Nat} {xs ys : List Nat} (w : World) (hx : IsNat B w A n c xs m) (hy : IsNat B' w A' 0 c' ys m') :
    Calls Tryz.prog 121 #[.slice A n c, .slice A' 0 c'] w (NewNat (m * m') w) := by
  obtain rfl : m' = 0 := hy.zero_iff.1 rfl
  have hn := hx.len
  have hle := hx.isl.2.1
  have hcc := hx.cap
  have hcc' := hy.cap
  rw [Nat.mul_zero]
  clear hx hy
  go_enter Tryz.func121, Tryz.ntmps121
  go_wp2
  go_ret
  exact ⟨none, 0, 0, [], rfl, IsNat.zero _ _, Below.refl _ _⟩
theorem mulNat_zero_lt {B B' : Nat} {A A' : Option Addr} {c n' c' m m' : Nat} {xs ys : List Nat} (w : World) (hx : IsNat B w A 0 c xs m) (hy : IsNat B' w A' n' c' ys m') (h0 : 0 < n') :
    Calls Tryz.prog 121 #[.slice A 0 c, .slice A' n' c'] w (NewNat (m * m') w) := by
  obtain rfl : m = 0 := hx.zero_iff.1 rfl
  have hn := hy.len
  have hle := hy.isl.2.1
  have hcc := hx.cap
  have hcc' := hy.cap
  rw [Nat.zero_mul]
  clear hx hy
  go_enter Tryz.func121, Tryz.ntmps121
  go_wp2
  go_ret
  exact ⟨none, 0, 0, [], rfl, IsNat.zero _ _, Below.refl _ _⟩
theorem mulNat_any {B B' : Nat} {A A' : Option Addr} {n c n' c' m m' : Nat} {xs ys : List Nat} (w : World) (hx : IsNat B w A n c xs m) (hy : IsNat B' w A' n' c' ys m') (h48 : n < 48 ∨ n' < 48) (hm : n < 900) (hm' : n' < 900) :
    Calls Tryz.prog 121 #[.slice A n c, .slice A' n' c'] w (NewNat (m * m') w) := by
  rcases Nat.eq_zero_or_pos n' with h0 | h0
  · subst h0
    exact mulNat_zero_ge w hx hy
  · rcases Nat.eq_zero_or_pos n with h1 | h1
    · subst h1
      exact mulNat_zero_lt w hx hy h0
    · rcases Nat.lt_or_ge n n' with h | h
      · exact (mulNat_lt w hx hy h h1 (by omega) hm').mono fun e w' k => k.cast (Nat.mul_comm _ _)
      · exact mulNat_ge w hx hy h h0 (by omega) hm
end Go.Proofs.YtjcblcikipmojaaGreatDoor
