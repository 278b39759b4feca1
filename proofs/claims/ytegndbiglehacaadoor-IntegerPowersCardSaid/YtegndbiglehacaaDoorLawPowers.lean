/- The law IntegerPowers: its walk. -/
import Derived.Test.YtegndbiglehacaaDoorPowZ
namespace Go.Proofs.YtegndbiglehacaaDoor
open Go.RowKit

theorem powSize {z : Int} : (digN z.natAbs).length ≤ (txt z).size := by
  by_cases h0 : z = 0
  · subst h0; rw [show (0 : Int).natAbs = 0 from rfl, digN_zero]; exact Nat.zero_le _
  · rw [txt_ne h0, strOfNums_size, List.length_append, List.length_map, List.length_reverse]
    omega
theorem zOf_twenty {s : ByteArray} (h : okT s = true) (hs : s.size ≤ 20) : (zOf s).natAbs < ten 20 := by
  obtain ⟨h1, h2⟩ := okT_true h
  have e := txt_zOf h2
  have hl := @powSize (zOf s)
  rw [e] at hl
  exact Nat.lt_of_lt_of_le (digN_lt _) (ten_le (show _ ≤ 20 by omega))
set_option maxRecDepth 100000 in
set_option maxHeartbeats 4000000 in
theorem power_range (a : Int) (P : Option Addr) (n : Int) (w : World) (h : n < 0 ∨ 64 < n) :
    Calls Tryd.prog 42 #[.agg #[.int .i64 a, .pointer P], .int .i64 n] w fun e w' => e = .returned (.tuple #[small 0, .int .i64 2]) ∧ Below w.heap.size w w' := by
  by_cases h0 : n < 0
  · clear h
    go_enter Tryd.func42, Tryd.ntmps42
    go_wp2
    exact bodyPost_ret (v := .tuple #[small 0, .int .i64 2]) (by simp [results, Tryd.results42, go_sem]) rfl ⟨rfl, by repeat (first | exact Below.refl _ _ | refine Below.setCell ?_ (by first | exact Nat.le_refl _ | (simp <;> omega)) _ | refine Below.alloc ?_ (by first | exact Nat.le_refl _ | (simp <;> omega)) _)⟩
  · have h1 : 64 < n := by omega
    have h2 : 0 ≤ n := by omega
    clear h h0
    go_enter Tryd.func42, Tryd.ntmps42
    go_wp2
    exact bodyPost_ret (v := .tuple #[small 0, .int .i64 2]) (by simp [results, Tryd.results42, go_sem]) rfl ⟨rfl, by repeat (first | exact Below.refl _ _ | refine Below.setCell ?_ (by first | exact Nat.le_refl _ | (simp <;> omega)) _ | refine Below.alloc ?_ (by first | exact Nat.le_refl _ | (simp <;> omega)) _)⟩

set_option maxRecDepth 100000 in
set_option maxHeartbeats 8000000 in
theorem integerPowers_walk (s : ByteArray) (n : Int) (w : World) (hs : s.size ≤ 9223372036854775807) (hn : I64 n) (hw : Good w) :
    Calls Tryd.prog 11 #[.string s, .int .i64 n] w fun e w' => e = .returned (.bool true) ∧ Below w.heap.size w w' := by
  have Hw := Lib.hid (fun w' (h : Below w.heap.size w w') => hw.below h)
  have Hk := Lib.hid (known_true w hw)
  have Hrs := Lib.hid (fun w => right_any s w hs)
  obtain ⟨bs, hbs⟩ : ∃ b, okT s = b := ⟨_, rfl⟩
  rw [hbs] at Hrs
  have Hbs := Lib.hid hbs
  unfold I64 at hn
  clear hw hbs
  go_enter Tryd.func11, Tryd.ntmps11
  go_wp2_with fail
  refine Hk.out.mono ?_
  rintro e w1 ⟨rfl, h1⟩
  have k1 := Lib.hid h1
  have Hk2 := Lib.hid (known_true w1 (Hw.out _ h1))
  clear h1
  go_wp2_with fail
  refine (Hrs.out _).mono ?_
  rintro e w2 ⟨rfl, rfl⟩
  cases bs with
  | false =>
    go_wp2_with fail
    refine Hk2.out.mono ?_
    rintro e w2 ⟨rfl, h2⟩
    have k2 := Lib.hid (below_on k1.out h2)
    clear h2
    go_wp2
    go_ret
    exact ⟨rfl, k2.out⟩
  | true =>
    by_cases h20 : s.size ≤ 20
    · have Hs := okT_true Hbs.out
      have Ls := Lib.hid (zOf_twenty Hbs.out h20)
      have Es := Lib.hid (txt_zOf Hs.2)
      have Hreads := Lib.hid (fun w => read_any s w Hs.1 Hs.2)
      have Hrp := Lib.hid (fun (m : Nat) (hm : m ≤ 64) w => refPower_any (zOf s) m w (zOf_twenty Hbs.out h20) (by rw [Es.out]; omega) hm)
      rw [Es.out] at Hrp
      obtain ⟨z, hz⟩ : ∃ z, zOf s = z := ⟨_, rfl⟩
      rw [hz] at Ls Es Hreads Hrp
      clear hz Hs
      go_wp2_with fail
      refine (Hreads.out _).mono ?_
      rintro e v0 ⟨a0, P0, rfl, hi0, h0⟩
      have V0 := Lib.hid (Var.new hi0)
      have K0 := Lib.hid (below_var (below_on k1.out h0) (.cells #[.int .i64 a0, .pointer P0] 25))
      clear h0 hi0
      by_cases hneg : n < 0
      · have hr : n < 0 ∨ 64 < n := .inl hneg
        have c00 := V0.out.c0
        have c01 := V0.out.c1
        go_wp2_with fail
        refine (power_range _ _ n _ hr).mono ?_
        rintro e n1 ⟨rfl, g1⟩
        have J1 := Lib.hid (below_var (below_on K0.out g1) (.cells #[.int .i64 0, .pointer none] 25))
        have HT := Lib.hid (show Calls Tryd.prog 17 #[small 0] _ (fun e w2 => e = .returned (.string (txt 0)) ∧ Below (n1.alloc (.cells #[.int .i64 0, .pointer none] 25)).heap.size (n1.alloc (.cells #[.int .i64 0, .pointer none] 25)) w2) from textZ_any (B := 0) (small 0) 0 (n1.alloc (.cells #[.int .i64 0, .pointer none] 25)) (.inl ⟨⟨by decide, by decide⟩, rfl⟩) (Hw.out _ J1.out).1)
        rw [txt_zero] at HT
        clear g1 c00 c01
        go_wp2_with fail
        refine HT.out.mono ?_
        rintro e m1 ⟨rfl, g1⟩
        have G1 := Lib.hid (below_on J1.out g1)
        clear g1
        go_wp2
        go_ret
        exact ⟨rfl, G1.out⟩
      · by_cases hbig : 64 < n
        · have hr : n < 0 ∨ 64 < n := .inr hbig
          have h0n : 0 ≤ n := by omega
          clear hneg
          have c00 := V0.out.c0
          have c01 := V0.out.c1
          go_wp2_with fail
          refine (power_range _ _ n _ hr).mono ?_
          rintro e n1 ⟨rfl, g1⟩
          have J1 := Lib.hid (below_var (below_on K0.out g1) (.cells #[.int .i64 0, .pointer none] 25))
          have HT := Lib.hid (show Calls Tryd.prog 17 #[small 0] _ (fun e w2 => e = .returned (.string (txt 0)) ∧ Below (n1.alloc (.cells #[.int .i64 0, .pointer none] 25)).heap.size (n1.alloc (.cells #[.int .i64 0, .pointer none] 25)) w2) from textZ_any (B := 0) (small 0) 0 (n1.alloc (.cells #[.int .i64 0, .pointer none] 25)) (.inl ⟨⟨by decide, by decide⟩, rfl⟩) (Hw.out _ J1.out).1)
          rw [txt_zero] at HT
          clear g1 c00 c01
          go_wp2_with fail
          refine HT.out.mono ?_
          rintro e m1 ⟨rfl, g1⟩
          have G1 := Lib.hid (below_on J1.out g1)
          clear g1
          go_wp2
          go_ret
          exact ⟨rfl, G1.out⟩
        · obtain ⟨m, rfl⟩ : ∃ m : Nat, n = (m : Int) := ⟨n.toNat, by omega⟩
          have hm : m ≤ 64 := by omega
          clear hneg hbig hn
          have Hpw := Lib.hid (powerZ_any a0 P0 z m _ V0.out.int Ls.out hm)
          have Hrm := Lib.hid (Hrp.out m hm)
          obtain ⟨y, hy⟩ : ∃ y, z ^ m = y := ⟨_, rfl⟩
          rw [hy] at Hrm Hpw
          obtain ⟨R, hR⟩ : ∃ R, txt y = R := ⟨_, rfl⟩
          rw [hR] at Hrm
          have HT := Lib.hid (fun w' x X (hg : Good w') (hi : IsInt 0 w' (.agg #[.int .i64 x, .pointer X]) y) => show Calls Tryd.prog 17 _ w' (fun e w2 => e = .returned (.string R) ∧ Below w'.heap.size w' w2) by rw [← hR]; exact textZ_any _ y w' hi hg.1)
          clear hR hy Hrp
          have c00 := V0.out.c0
          have c01 := V0.out.c1
          go_wp2_with fail
          refine Hpw.out.mono ?_
          rintro e n1 ⟨x, X, rfl, hi, g1⟩
          have J1 := Lib.hid (below_var (below_on K0.out g1) (.cells #[.int .i64 x, .pointer X] 25))
          have HT1 := Lib.hid (HT.out _ x X (Hw.out _ J1.out) (Var.new hi).int)
          clear g1 hi c00 c01
          go_wp2_with fail
          refine HT1.out.mono ?_
          rintro e m1 ⟨rfl, g1⟩
          have G1 := Lib.hid (below_on J1.out g1)
          clear g1
          go_wp2_with fail
          refine (Hrm.out _).mono ?_
          rintro e q1 ⟨rfl, g1⟩
          have F1 := Lib.hid (below_on G1.out g1)
          clear g1
          go_wp2
          go_ret
          exact ⟨by simp, F1.out⟩
    · go_wp2_with fail
      refine Hk2.out.mono ?_
      rintro e w2 ⟨rfl, h2⟩
      have k2 := Lib.hid (below_on k1.out h2)
      clear h2
      go_wp2
      go_ret
      exact ⟨rfl, k2.out⟩
end Go.Proofs.YtegndbiglehacaaDoor
