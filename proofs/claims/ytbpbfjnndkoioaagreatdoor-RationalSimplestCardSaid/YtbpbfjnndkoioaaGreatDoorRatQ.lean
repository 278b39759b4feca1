/- Rationals: Int, Sign; the reference's From, Sign. -/
import Derived.Test.YtbpbfjnndkoioaaGreatDoorRatK
import Derived.Test.YtbpbfjnndkoioaaGreatDoorRatC
import Derived.Test.YtbpbfjnndkoioaaGreatDoorRatI
import Derived.Test.YtbpbfjnndkoioaaGreatDoorFrom
namespace Go.Proofs.YtbpbfjnndkoioaaGreatDoor
open Go.RowKit

theorem index_none : ∀ l : List UInt8, (∀ c ∈ l, c ≠ 47) → Lib.indexByte l 47 = -1
  | [], _ => rfl
  | b :: l, h => by
    have h1 := index_none l (fun c hc => h c (List.mem_cons_of_mem _ hc))
    have h2 : (b == 47) = false := by rw [beq_eq_false_iff_ne]; exact h b (List.mem_cons_self ..)
    unfold Lib.indexByte
    rw [h2, h1]
    rfl
theorem index_some : ∀ (l m : List UInt8), (∀ c ∈ l, c ≠ 47) → Lib.indexByte (l ++ 47 :: m) 47 = (l.length : Int)
  | [], m, _ => by simp [Lib.indexByte]
  | b :: l, m, h => by
    have h1 := index_some l m (fun c hc => h c (List.mem_cons_of_mem _ hc))
    have h2 : (b == 47) = false := by rw [beq_eq_false_iff_ne]; exact h b (List.mem_cons_self ..)
    have h3 : ((l.length : Int) == -1) = false := by rw [beq_eq_false_iff_ne]; omega
    rw [List.cons_append]
    unfold Lib.indexByte
    rw [h2, h1, h3]
    simp
theorem mem_dropWhile {p : UInt8 → Bool} {x : UInt8} : ∀ l : List UInt8, x ∈ l → p x = false → x ∈ l.dropWhile p
  | [], h, _ => by cases h
  | b :: l, h, hp => by
    rw [List.dropWhile_cons]
    split
    · rename_i hb
      rcases List.mem_cons.1 h with rfl | h1
      · rw [hp] at hb; cases hb
      · exact mem_dropWhile l h1 hp
    · exact h
theorem trim_some {l : List UInt8} {x : UInt8} (h : x ∈ l) (hx : x ≠ 48) : Lib.trimB l 48 ≠ [] := by
  have hp : (x == 48) = false := by rw [beq_eq_false_iff_ne]; exact hx
  have h1 : x ∈ Lib.trimRightB l 48 := List.mem_reverse.2 (mem_dropWhile (p := (· == 48)) _ (List.mem_reverse.2 h) hp)
  have h2 : x ∈ Lib.trimB l 48 := mem_dropWhile (p := (· == 48)) _ h1 hp
  intro e
  rw [e] at h2
  cases h2
theorem trim_body (s : ByteArray) : (⟨(Lib.trimPrefix s.data.toList [45]).toArray⟩ : ByteArray) = bodyOf s := by
  apply ByteArray.ext
  apply Array.toList_inj.1
  unfold Lib.trimPrefix Lib.hasPrefix bodyOf isNeg
  cases hl : s.data.toList with
  | nil => simp [hl]
  | cons c l =>
    by_cases hc : c = 45
    · subst hc
      have hlen := str_len s
      rw [hl, List.length_cons] at hlen
      simp [hl]
      rw [List.take_of_length_le (by omega)]
    · have h1 : ((45 : UInt8) == c) = false := by rw [beq_eq_false_iff_ne]; exact fun e => hc e.symm
      have h2 : (some c == some (45 : UInt8)) = false := by rw [beq_eq_false_iff_ne]; intro e; injection e with e; exact hc e
      simp [List.isPrefixOf, h1, hc, hl]
set_option maxHeartbeats 1000000 in
theorem isDigitsR_any (s : ByteArray) (w : World) (hs : s.size ≤ 9223372036854775807) :
    Calls Tryz.prog 83 #[.string s] w fun e w' => e = .returned (.bool (allDig s.data.toList && decide (0 < s.size))) ∧ w = w' := by
  go_enter Tryz.func83, Tryz.ntmps83
  go_wp2_with fail
  go_loop [6] (fun i => ∃ k : Nat, k ≤ s.size ∧ i = .int .i64 k ∧ allDig (s.data.toList.take k) = true) (fun i => s.size - (intOf i).toNat)
  case atStart => exact ⟨0, Nat.zero_le _, rfl, rfl⟩
  case round =>
    obtain ⟨k, hk, rfl, hd⟩ := hrel
    have Hd := Lib.hid hd
    clear hd
    by_cases hlt : k < s.size
    · have Hat := Lib.hid (str_at hlt)
      obtain ⟨x, hx⟩ : ∃ x, (s[k]).toNat = x := ⟨_, rfl⟩
      have Hx := Lib.hid hx
      by_cases h1 : x < 48
      · have hf : allDig s.data.toList = false := allDig_not Hat.out (by unfold isDig; rw [Hx.out]; simp; omega)
        go_wp2
        all_goals go_ret
        all_goals simp
      · by_cases h2 : 57 < x
        · have hf : allDig s.data.toList = false := allDig_not Hat.out (by unfold isDig; rw [Hx.out]; simp; omega)
          go_wp2
          all_goals go_ret
          all_goals simp
        · have hf := Lib.hid (allDig_take Hat.out (by unfold isDig; rw [Hx.out]; simp; omega) Hd.out)
          go_wp2
          go_round
          case rel => exact ⟨k + 1, by omega, by go_num, hf.out⟩
          case measure => simp [intOf]; omega
    · have e : k = s.size := by omega
      have hall : allDig s.data.toList = true := by
        have := Hd.out
        rw [e, ← str_len, List.take_length] at this
        exact this
      go_wp2
      go_ret
      simp
set_option maxHeartbeats 1000000 in
theorem cutL_none (S : ByteArray) (h : ∀ c ∈ S.data.toList, c ≠ 47) (w : World) :
    Calls Tryz.prog 101 #[.string S, .string ⟨#[47]⟩] w fun e w' => e = .returned (.tuple #[.string S, .string ⟨#[]⟩, .bool false]) ∧ w = w' := by
  have HI := Lib.hid (fun w => Tryz.stringslite_Index_one S 47 w)
  rw [index_none _ h] at HI
  clear h
  go_enter Tryz.func101, Tryz.ntmps101
  go_wp2_with fail
  refine (HI.out _).mono ?_
  rintro e w1 ⟨rfl, rfl⟩
  go_wp2
  go_ret3
  exact ⟨rfl, rfl⟩
theorem cut_none (S : ByteArray) (h : ∀ c ∈ S.data.toList, c ≠ 47) (w : World) :
    Calls Tryz.prog 82 #[.string S, .string ⟨#[47]⟩] w fun e w' => e = .returned (.tuple #[.string S, .string ⟨#[]⟩, .bool false]) ∧ w = w' := by
  have HI := Lib.hid (fun w => cutL_none S h w)
  clear h
  go_enter Tryz.func82, Tryz.ntmps82
  go_wp2_with fail
  refine (HI.out _).mono ?_
  rintro e w1 ⟨rfl, rfl⟩
  go_wp2
  go_ret3
  exact ⟨rfl, rfl⟩
set_option maxHeartbeats 1000000 in
theorem cutL_some (T U : ByteArray) (h : ∀ c ∈ T.data.toList, c ≠ 47) (w : World) (hs : T.size ≤ 5000) (ht : U.size ≤ 5000) :
    Calls Tryz.prog 101 #[.string (T ++ ⟨#[47]⟩ ++ U), .string ⟨#[47]⟩] w fun e w' => e = .returned (.tuple #[.string T, .string U, .bool true]) ∧ Below w.heap.size w w' := by
  have hsz := size_cat T U
  have hdata : (T ++ ⟨#[47]⟩ ++ U).data.toList = T.data.toList ++ 47 :: U.data.toList := by simp [ByteArray.data_append]
  have HI := Lib.hid (fun w => Tryz.stringslite_Index_one (T ++ ⟨#[47]⟩ ++ U) 47 w)
  rw [hdata, index_some _ _ h, str_len] at HI
  have hl := cut_left T U
  have hr := cut_right T U
  obtain ⟨S, hS⟩ : ∃ S, T ++ ⟨#[47]⟩ ++ U = S := ⟨_, rfl⟩
  rw [hS] at hl hr hsz HI ⊢
  have hle : T.size ≤ S.size := by omega
  have hle1 : T.size + 1 ≤ S.size := by omega
  have hS5 : S.size ≤ 10001 := by omega
  clear hdata hS hsz h
  go_enter Tryz.func101, Tryz.ntmps101
  go_wp2_with fail
  refine (HI.out _).mono ?_
  rintro e w1 ⟨rfl, rfl⟩
  go_wp2_with fail
  go_region
  all_goals
    go_wp2
    go_ret3
    exact ⟨rfl, (Below.refl _ _).drew⟩
theorem cut_some (T U : ByteArray) (h : ∀ c ∈ T.data.toList, c ≠ 47) (w : World) (hs : T.size ≤ 5000) (ht : U.size ≤ 5000) :
    Calls Tryz.prog 82 #[.string (T ++ ⟨#[47]⟩ ++ U), .string ⟨#[47]⟩] w fun e w' => e = .returned (.tuple #[.string T, .string U, .bool true]) ∧ Below w.heap.size w w' := by
  have HI := Lib.hid (fun w => cutL_some T U h w hs ht)
  obtain ⟨S, hS⟩ : ∃ S, T ++ ⟨#[47]⟩ ++ U = S := ⟨_, rfl⟩
  rw [hS] at HI ⊢
  clear hS h
  go_enter Tryz.func82, Tryz.ntmps82
  go_wp2_with fail
  refine (HI.out _).mono ?_
  rintro e w1 ⟨rfl, h1⟩
  have K1 := Lib.hid h1
  clear h1
  go_wp2
  go_ret3
  exact ⟨rfl, K1.out⟩
theorem trim_one (s : ByteArray) (w : World) (hs : s.size ≤ 9223372036854775807) :
    Calls Tryz.prog 85 #[.string s, .string ⟨#[48]⟩] w fun e w' => e = .returned (.string ⟨(Lib.trimB s.data.toList 48).toArray⟩) ∧ Below w.heap.size w w' :=
  (Tryz.strings_Trim_one s 48 (by decide) w hs).mono fun e w' ⟨h1, h2⟩ => ⟨h1, by
    rcases h2 with rfl | rfl
    · exact Below.refl _ _
    · exact (Below.refl _ _).drew⟩
theorem parse_okR (s : ByteArray) (z : Int) (w : World) (hs : s.size ≤ 1300) (h0 : Tx s z) :
    Calls Tryz.prog 86 #[.string s] w fun e w' => ∃ a P, e = .returned (.tuple #[.agg #[.int .i64 a, .pointer P], .int .i64 0]) ∧ IsInt 0 w' (.agg #[.int .i64 a, .pointer P]) z ∧ Below w.heap.size w w' := by
  refine (parse_any s w hs).mono ?_
  rintro e w' ⟨v, rfl, h1, _, h2⟩
  obtain ⟨a, P, rfl⟩ := (h1 h0.1).form
  exact ⟨a, P, by rw [h0.1], by have h3 := (h1 h0.1).mono (Nat.zero_le _); have h4 : signZ (isNeg s) (decV (bodyOf s).data.toList) = z := h0.2; rwa [h4] at h3, h2⟩
theorem good_body {s : ByteArray} (h : errOf s = 0) : allDig (bodyOf s).data.toList = true ∧ 0 < (bodyOf s).size := by
  obtain ⟨e1, e2, _, _⟩ := errOf_ways (s := s) rfl
  refine ⟨?_, ?_⟩
  · cases hb : allDig (bodyOf s).data.toList
    · rw [e2 hb] at h; cases h
    · rfl
  · rcases Nat.eq_zero_or_pos (bodyOf s).size with h0 | h0
    · rw [e1 h0] at h; cases h
    · exact h0
theorem pos_body {s : ByteArray} {z : Int} (h : Tx s z) (hz : 0 < z) : bodyOf s = s ∧ ∃ x ∈ s.data.toList, x ≠ 48 := by
  have hn : isNeg s = false := by
    cases hn : isNeg s
    · rfl
    · exfalso
      have := h.2
      unfold zOf signZ at this
      rw [hn] at this
      simp at this
      omega
  have hb : bodyOf s = s := by unfold bodyOf; rw [hn]; rfl
  refine ⟨hb, ?_⟩
  obtain ⟨hd, h0⟩ := good_body h.1
  rw [hb] at hd h0
  cases hl : s.data.toList with
  | nil => have := str_len s; rw [hl] at this; simp at this; omega
  | cons c l =>
    by_cases hc : c = 48
    · exfalso
      have hlead : lead0 s = true := by unfold lead0; rw [hl, hc]; rfl
      have hone : s.size = 1 := by
        rcases Nat.lt_or_ge 1 s.size with h1 | h1
        · have := (errOf_ways hb).2.2.1 hd h0 hlead (.inl h1)
          rw [h.1] at this; cases this
        · omega
      have hl2 : l = [] := by
        have := str_len s
        rw [hl, hone] at this
        simpa using this
      have hs : s = ⟨#[48]⟩ := by
        apply ByteArray.ext
        apply Array.toList_inj.1
        rw [hl, hc, hl2]
      have h3 := (dl_txt z).2
      rw [h.txt, hs] at h3
      have h4 : dval (dl [48]) = 0 := by decide +kernel
      have h5 : dval (dl (⟨#[48]⟩ : ByteArray).data.toList) = 0 := h4
      omega
    · exact ⟨c, List.mem_cons_self .., hc⟩
set_option maxRecDepth 100000 in
set_option maxHeartbeats 8000000 in
theorem parse_int (q : Rat) (most : Nat) (w : World) (hd : q.den = 1) (hT : Tx (txt q.num) q.num) (hs : (txt q.num).size ≤ 1250) (hm : (txt q.num).size ≤ most) (_hm2 : most ≤ 1000000000) :
    Calls Tryz.prog 53 #[.string (txt q.num), .int .i64 (most : Nat)] w (Made q w) := by
  have HC := Lib.hid (fun w => cut_none _ (txt_plain q.num) w)
  obtain ⟨b1, b2⟩ := good_body hT.1
  have HTr := Lib.hid (fun w => Tryz.strings_TrimPrefix (txt q.num) ⟨#[45]⟩ w)
  rw [show (⟨#[45]⟩ : ByteArray).data.toList = [45] from rfl, trim_body] at HTr
  obtain ⟨d, hdd⟩ : ∃ d, bodyOf (txt q.num) = d := ⟨_, rfl⟩
  rw [hdd] at b1 b2 HTr
  have HP := Lib.hid (fun w => parse_okR (txt q.num) q.num w (by omega) hT)
  have hds : d.size ≤ 1250 := by
    rw [← hdd]
    unfold bodyOf
    split
    · rw [tail_size]; omega
    · omega
  have HD := Lib.hid (fun w => isDigitsR_any d w (by omega))
  rw [b1, decide_eq_true b2] at HD
  obtain ⟨S, hS⟩ : ∃ S, txt q.num = S := ⟨_, rfl⟩
  rw [hS] at HC HTr HP hs hm ⊢
  have R := Lib.hid (Cells.new w #[.int .i64 0, .pointer none, .int .i64 0, .pointer none] 28)
  have Kk := Lib.hid ((Below.refl w.heap.size w).alloc (Nat.le_refl _) (.cells #[.int .i64 0, .pointer none, .int .i64 0, .pointer none] 28))
  have Hd1 := Lib.hid hd
  have hmI : (S.size : Int) ≤ (most : Int) := by omega
  clear hdd hS b1 b2 hT hd hds
  go_enter Tryz.func53, Tryz.ntmps53
  go_wp2_with fail
  refine (HC.out _).mono ?_
  rintro e w1 ⟨rfl, rfl⟩
  go_wp2_with fail
  refine (HTr.out _).mono ?_
  rintro e w1 ⟨rfl, rfl⟩
  go_wp2_with fail
  refine (HD.out _).mono ?_
  rintro e w1 ⟨rfl, rfl⟩
  go_wp2_with fail
  refine (HP.out _).mono ?_
  rintro e w1 ⟨a, P, rfl, hi, h1⟩
  have kv := (Below.refl w1.heap.size w1).alloc (Nat.le_refl _) (.cells #[.int .i64 a, .pointer P] 26)
  have R := Lib.hid ((R.out.keep h1).keep kv)
  have Hi := Lib.hid (hi.keep kv)
  have K1 := Lib.hid (below_on (below_on Kk.out h1) kv)
  obtain ⟨wx, hwx⟩ : ∃ u, w1.alloc (.cells #[.int .i64 a, .pointer P] 26) = u := ⟨_, rfl⟩
  have V := Lib.hid (Var.new hi)
  rw [hwx] at R Hi K1 V
  obtain ⟨pv, hpv⟩ : ∃ p, w1.heap.size = p := ⟨_, rfl⟩
  rw [hpv] at V
  have c0 := V.out.c0
  have c1 := V.out.c1
  clear hi h1 kv
  have k0 := R.out.c0
  have k1 := R.out.c1
  have k2 := R.out.c2
  have k3 := R.out.c3
  have f0 := R.out.fz 0
  have f1 := R.out.fz 1
  have f2 := R.out.fz 2
  have f3 := R.out.fz 3
  have HN := Lib.hid (Hi.out.wrote R.out (by rfl) (put4_heap _ w.heap.size (.int .i64 a) (.pointer P) (.int .i64 0) (.pointer none)).1 (put4_heap _ _ _ _ _ _).2)
  have K2 := Lib.hid (below_put4 K1.out (Nat.le_refl w.heap.size) (.int .i64 a) (.pointer P) (.int .i64 0) (.pointer none))
  go_wp2
  exact bodyPost_ret (v := .tuple #[.agg #[.int .i64 a, .pointer P, .int .i64 0, .pointer none], .int .i64 0]) (by simp [results, Tryz.results53, go_sem, k0, k1, k2, k3]) rfl ⟨a, P, 0, none, rfl, ⟨HN.out, by rw [Hd1.out, denZ_one]; exact small_int ⟨by decide, by decide⟩⟩, K2.out⟩
set_option maxRecDepth 100000 in
set_option maxHeartbeats 8000000 in
theorem parse_frac (q : Rat) (most : Nat) (w : World) (hd : q.den ≠ 1) (hT : Tx (txt q.num) q.num) (hU : Tx (txt (q.den : Int)) (q.den : Int)) (hs : (txt q.num).size ≤ 1250) (ht : (txt (q.den : Int)).size ≤ 1250) (hbn : q.num.natAbs < base 390) (hbd : ((q.den : Nat) : Int).natAbs < base 390) (hm : (txt q.num ++ ⟨#[47]⟩ ++ txt (q.den : Int)).size ≤ most) (_hm2 : most ≤ 1000000000) (hg : Good w) :
    Calls Tryz.prog 53 #[.string (txt q.num ++ ⟨#[47]⟩ ++ txt (q.den : Int)), .int .i64 (most : Nat)] w (Made q w) := by
  have HC := Lib.hid (fun w => cut_some _ (txt q.den) (txt_plain q.num) w (by omega) (by omega))
  obtain ⟨b1, b2⟩ := good_body hT.1
  obtain ⟨b3, b4⟩ := good_body hU.1
  have hdp := q.den_pos
  obtain ⟨hbod, x, hx, hx48⟩ := pos_body hU (by omega)
  rw [hbod] at b3 b4
  have HTr := Lib.hid (fun w => Tryz.strings_TrimPrefix (txt q.num) ⟨#[45]⟩ w)
  rw [show (⟨#[45]⟩ : ByteArray).data.toList = [45] from rfl, trim_body] at HTr
  have HZ := Lib.hid (fun w => trim_one (txt (q.den : Int)) w (by omega))
  obtain ⟨X, hX⟩ : ∃ X : ByteArray, ⟨(Lib.trimB (txt (q.den : Int)).data.toList 48).toArray⟩ = X := ⟨_, rfl⟩
  have hXne : X.toList ≠ [] := by
    rw [← hX, ByteArray.toList_eq]
    exact trim_some hx hx48
  rw [hX] at HZ
  have tX : (X.toList == []) = false := by rw [beq_eq_false_iff_ne]; exact hXne
  have tX2 : X.toList.isEmpty = false := by rw [List.isEmpty_eq_false_iff]; exact hXne
  obtain ⟨d, hdd⟩ : ∃ d, bodyOf (txt q.num) = d := ⟨_, rfl⟩
  rw [hdd] at b1 b2 HTr
  have HP := Lib.hid (fun w => parse_okR (txt q.num) q.num w (by omega) hT)
  have HQ := Lib.hid (fun w => parse_okR (txt (q.den : Int)) q.den w (by omega) hU)
  have hds : d.size ≤ 1250 := by
    rw [← hdd]
    unfold bodyOf
    split
    · rw [tail_size]; omega
    · omega
  have HD := Lib.hid (fun w => isDigitsR_any d w (by omega))
  have HE := Lib.hid (fun w => isDigitsR_any (txt (q.den : Int)) w (by omega))
  rw [b1, decide_eq_true b2] at HD
  rw [b3, decide_eq_true b4] at HE
  have Hg := Lib.hid (fun w' (hb : Below w.heap.size w w') => hg.below hb)
  obtain ⟨S, hS⟩ : ∃ S, txt q.num = S := ⟨_, rfl⟩
  obtain ⟨U, hUU⟩ : ∃ U, txt (q.den : Int) = U := ⟨_, rfl⟩
  rw [hS, hUU] at HC hm ⊢
  rw [hS] at HTr HP
  rw [hUU] at HQ HZ HE
  obtain ⟨Y, hY⟩ : ∃ Y, S ++ ⟨#[47]⟩ ++ U = Y := ⟨_, rfl⟩
  rw [hY] at HC hm ⊢
  have R := Lib.hid (Cells.new w #[.int .i64 0, .pointer none, .int .i64 0, .pointer none] 28)
  have Kk := Lib.hid ((Below.refl w.heap.size w).alloc (Nat.le_refl _) (.cells #[.int .i64 0, .pointer none, .int .i64 0, .pointer none] 28))
  have Hd1 := Lib.hid hd
  have Hred := Lib.hid (show Nat.gcd q.num.natAbs ((q.den : Nat) : Int).natAbs = 1 by rw [Int.natAbs_natCast]; exact q.reduced)
  have Lz := Lib.hid hbn
  have Lk := Lib.hid hbd
  have hmI : (Y.size : Int) ≤ (most : Int) := by omega
  clear hdd hS hUU hX hXne hY b1 b2 b3 b4 hT hU hd hds hbn hbd hbod hx hx48 hdp hg hs ht
  go_enter Tryz.func53, Tryz.ntmps53
  go_wp2_with fail
  refine (HC.out _).mono ?_
  rintro e w1 ⟨rfl, h1⟩
  have R := Lib.hid (R.out.keep h1)
  have K1 := Lib.hid (below_on Kk.out h1)
  clear h1
  go_wp2_with fail
  refine (HTr.out _).mono ?_
  rintro e w2 ⟨rfl, rfl⟩
  go_wp2_with fail
  refine (HD.out _).mono ?_
  rintro e w2 ⟨rfl, rfl⟩
  go_wp2_with fail
  refine (HE.out _).mono ?_
  rintro e w2 ⟨rfl, rfl⟩
  go_wp2_with fail
  refine (HZ.out _).mono ?_
  rintro e w3 ⟨rfl, h3⟩
  have R := Lib.hid (R.out.keep h3)
  have K3 := Lib.hid (below_on K1.out h3)
  clear h3
  go_wp2_with fail
  refine (HP.out _).mono ?_
  rintro e w4 ⟨a, P, rfl, hi, h1⟩
  have kv := (Below.refl w4.heap.size w4).alloc (Nat.le_refl _) (.cells #[.int .i64 a, .pointer P] 26)
  have R := Lib.hid ((R.out.keep h1).keep kv)
  have V := Lib.hid (Var.new hi)
  have K4 := Lib.hid (below_on (below_on K3.out h1) kv)
  obtain ⟨wx, hwx⟩ : ∃ u, w4.alloc (.cells #[.int .i64 a, .pointer P] 26) = u := ⟨_, rfl⟩
  rw [hwx] at R K4 V
  obtain ⟨pv, hpv⟩ : ∃ p, w4.heap.size = p := ⟨_, rfl⟩
  rw [hpv] at V
  clear hi h1 kv
  go_wp2_with fail
  try simp only [hwx, hpv]
  refine (HQ.out _).mono ?_
  rintro e w5 ⟨b, Q, rfl, hi, h1⟩
  have kv := (Below.refl w5.heap.size w5).alloc (Nat.le_refl _) (.cells #[.int .i64 b, .pointer Q] 26)
  have R := Lib.hid ((R.out.keep h1).keep kv)
  have V := Lib.hid ((V.out.keep h1).keep kv)
  have U1 := Lib.hid (Var.new hi)
  have K5 := Lib.hid (below_on (below_on K4.out h1) kv)
  obtain ⟨wy, hwy⟩ : ∃ u, w5.alloc (.cells #[.int .i64 b, .pointer Q] 26) = u := ⟨_, rfl⟩
  rw [hwy] at R K5 V U1
  obtain ⟨pu, hpu⟩ : ∃ p, w5.heap.size = p := ⟨_, rfl⟩
  rw [hpu] at U1
  clear hi h1 kv hwx hpv
  have HO := Lib.hid (isOne_any b Q (q.den : Int) wy U1.out.int)
  rw [show decide ((q.den : Int) = 1) = false from decide_eq_false (by have := Hd1.out; omega)] at HO
  have c0 := U1.out.c0
  have c1 := U1.out.c1
  go_wp2_with fail
  try simp only [hwy, hpu]
  refine HO.out.mono ?_
  rintro e w6 ⟨rfl, h1⟩
  have R := Lib.hid (R.out.keep h1)
  have V := Lib.hid (V.out.keep h1)
  have U1 := Lib.hid (U1.out.keep h1)
  have K6 := Lib.hid (below_on K5.out h1)
  clear h1 hwy hpu c0 c1
  have HG := Lib.hid (gcd_any a b P Q q.num (q.den : Int) w6 V.out.int U1.out.int (base_up Lz.out (by decide)) (base_up Lk.out (by decide)) (Hg.out _ K6.out).2 (Nat.lt_of_le_of_lt (Nat.zero_le _) V.out.lt))
  rw [Hred.out] at HG
  have c0 := V.out.c0
  have c1 := V.out.c1
  have d0 := U1.out.c0
  have d1 := U1.out.c1
  go_wp2_with fail
  refine HG.out.mono ?_
  rintro e w7 ⟨ga, gP, rfl, hgi, h1⟩
  have R := Lib.hid (R.out.keep h1)
  have V := Lib.hid (V.out.keep h1)
  have U1 := Lib.hid (U1.out.keep h1)
  have K7 := Lib.hid (below_on K6.out h1)
  have HO := Lib.hid (isOne_any ga gP _ w7 hgi)
  rw [show decide (((1 : Nat) : Int) = 1) = true from rfl] at HO
  clear h1 hgi c0 c1 d0 d1
  go_wp2_with fail
  refine HO.out.mono ?_
  rintro e w8 ⟨rfl, h1⟩
  have R := Lib.hid (R.out.keep h1)
  have V := Lib.hid (V.out.keep h1)
  have U1 := Lib.hid (U1.out.keep h1)
  have K8 := Lib.hid (below_on K7.out h1)
  clear h1
  have c0 := V.out.c0
  have c1 := V.out.c1
  have d0 := U1.out.c0
  have d1 := U1.out.c1
  have k0 := R.out.c0
  have k1 := R.out.c1
  have k2 := R.out.c2
  have k3 := R.out.c3
  have f0 := R.out.fz 0
  have f1 := R.out.fz 1
  have f2 := R.out.fz 2
  have f3 := R.out.fz 3
  have HN := Lib.hid (V.out.int.wrote R.out (by rfl) (put4_heap _ w.heap.size (.int .i64 a) (.pointer P) (.int .i64 b) (.pointer Q)).1 (put4_heap _ _ _ _ _ _).2)
  have HM := Lib.hid (U1.out.int.wrote R.out (by rfl) (put4_heap _ w.heap.size (.int .i64 a) (.pointer P) (.int .i64 b) (.pointer Q)).1 (put4_heap _ _ _ _ _ _).2)
  have K9 := Lib.hid (below_put4 K8.out (Nat.le_refl w.heap.size) (.int .i64 a) (.pointer P) (.int .i64 b) (.pointer Q))
  go_wp2
  exact bodyPost_ret (v := .tuple #[.agg #[.int .i64 a, .pointer P, .int .i64 b, .pointer Q], .int .i64 0]) (by simp [results, Tryz.results53, go_sem, k0, k1, k2, k3]) rfl ⟨a, P, b, Q, rfl, ⟨HN.out, by rw [denZ_ne Hd1.out]; exact HM.out⟩, K9.out⟩
/-- A text of at most 40 bytes, and its rational. -/
structure RS (s : ByteArray) (q : Rat) : Prop where
  txt_ : ratTxt q = s
  num : Tx (txt q.num) q.num
  den : q.den ≠ 1 → Tx (txt (q.den : Int)) (q.den : Int)
  nsz : (txt q.num).size ≤ 40
  dsz : q.den ≠ 1 → (txt (q.den : Int)).size ≤ 40
  nlt : q.num.natAbs < ten 40
  dlt : q.den < ten 40
  size : s.size ≤ 40
theorem IsR.rs {s : ByteArray} (h : IsR s) (hs : s.size ≤ 40) : ∃ q, RS s q := by
  obtain ⟨q, h1, h2, h3, h4, h5⟩ := h
  refine ⟨q, h1, h2, h3, by omega, fun h => by have := h5 h; omega, ?_, ?_, hs⟩
  · have hl := @digN_sz q.num
    exact Nat.lt_of_lt_of_le (digN_lt _) (ten_le (by omega))
  · by_cases hd : q.den = 1
    · rw [hd]; decide +kernel
    · have hl := @digN_sz (q.den : Int)
      have h6 := h5 hd
      have h7 := digN_lt ((q.den : Nat) : Int).natAbs
      rw [Int.natAbs_natCast] at h7 hl
      exact Nat.lt_of_lt_of_le h7 (ten_le (by omega))
theorem ten40 {m : Nat} (h : m < ten 40) : m < base 390 := Nat.lt_of_lt_of_le h (by decide +kernel)
theorem rparse0_any {s : ByteArray} {q : Rat} (h : RS s q) (most : Nat) (w : World) (hm : 40 ≤ most) (hm2 : most ≤ 1000000000) (hg : Good w) :
    Calls Tryz.prog 53 #[.string s, .int .i64 (most : Nat)] w (Made q w) := by
  have hs := h.size
  have e := h.txt_
  unfold ratTxt at e
  by_cases hd : q.den = 1
  · rw [if_pos hd] at e
    subst e
    exact parse_int q most w hd h.num (by have := h.nsz; omega) (by omega) hm2
  · rw [if_neg hd] at e
    subst e
    exact parse_frac q most w hd h.num (h.den hd) (by have := h.nsz; omega) (by have := h.dsz hd; omega) (ten40 h.nlt) (by rw [Int.natAbs_natCast]; exact ten40 h.dlt) (by omega) hm2 hg
set_option maxHeartbeats 4000000 in
theorem rparse_any {s : ByteArray} {q : Rat} (h : RS s q) (w : World) (hg : Good w) : Calls Tryz.prog 23 #[.string s] w (Made q w) := by
  have kk := (Below.refl w.heap.size w).alloc (Nat.le_refl _) (.cells #[.int .i64 0, .pointer none, .int .i64 0, .pointer none] 28)
  have R := Lib.hid (Cells.new w #[.int .i64 0, .pointer none, .int .i64 0, .pointer none] 28)
  have HP := Lib.hid (rparse0_any h 400 _ (by decide) (by decide) (hg.below kk))
  have Kk := Lib.hid kk
  clear h hg kk
  go_enter Tryz.func23, Tryz.ntmps23
  go_wp2_with fail
  refine HP.out.mono ?_
  rintro e w1 ⟨a, P, b, Q, rfl, hv, h1⟩
  have R := Lib.hid (R.out.keep h1)
  have Hv := Lib.hid (hv.wrote R.out (by rfl) (put4_heap w1 w.heap.size (.int .i64 a) (.pointer P) (.int .i64 b) (.pointer Q)).1 (put4_heap _ _ _ _ _ _).2)
  have K1 := Lib.hid (below_put4 (below_on Kk.out h1) (Nat.le_refl w.heap.size) (.int .i64 a) (.pointer P) (.int .i64 b) (.pointer Q))
  clear hv h1
  have k0 := R.out.c0
  have k1 := R.out.c1
  have k2 := R.out.c2
  have k3 := R.out.c3
  have f0 := R.out.fz 0
  have f1 := R.out.fz 1
  have f2 := R.out.fz 2
  have f3 := R.out.fz 3
  go_wp2
  exact bodyPost_ret (v := .tuple #[.agg #[.int .i64 a, .pointer P, .int .i64 b, .pointer Q], .int .i64 0]) (by simp [results, Tryz.results23, go_sem, k0, k1, k2, k3]) rfl ⟨a, P, b, Q, rfl, Hv.out, K1.out⟩
set_option maxHeartbeats 4000000 in
theorem rread_any {s : ByteArray} {q : Rat} (h : RS s q) (w : World) (hg : Good w) : Calls Tryz.prog 7 #[.string s] w (NewRat q w) := by
  have kk := (Below.refl w.heap.size w).alloc (Nat.le_refl _) (.cells #[.int .i64 0, .pointer none, .int .i64 0, .pointer none] 28)
  have R := Lib.hid (Cells.new w #[.int .i64 0, .pointer none, .int .i64 0, .pointer none] 28)
  have HP := Lib.hid (rparse_any h _ (hg.below kk))
  have Kk := Lib.hid kk
  clear h hg kk
  go_enter Tryz.func7, Tryz.ntmps7
  go_wp2_with fail
  refine HP.out.mono ?_
  rintro e w1 ⟨a, P, b, Q, rfl, hv, h1⟩
  have kv := (Below.refl w1.heap.size w1).alloc (Nat.le_refl _) (.cells #[.int .i64 a, .pointer P, .int .i64 b, .pointer Q] 28)
  have R := Lib.hid ((R.out.keep h1).keep kv)
  have Hv := Lib.hid ((hv.keep kv).wrote R.out (by rfl) (put4_heap _ w.heap.size (.int .i64 a) (.pointer P) (.int .i64 b) (.pointer Q)).1 (put4_heap _ _ _ _ _ _).2)
  have K1 := Lib.hid (below_put4 (below_on (below_on Kk.out h1) kv) (Nat.le_refl w.heap.size) (.int .i64 a) (.pointer P) (.int .i64 b) (.pointer Q))
  clear hv h1 kv
  have k0 := R.out.c0
  have k1 := R.out.c1
  have k2 := R.out.c2
  have k3 := R.out.c3
  have f0 := R.out.fz 0
  have f1 := R.out.fz 1
  have f2 := R.out.fz 2
  have f3 := R.out.fz 3
  go_wp2
  exact bodyPost_ret (v := .agg #[.int .i64 a, .pointer P, .int .i64 b, .pointer Q]) (by simp [results, Tryz.results7, go_sem, k0, k1, k2, k3]) rfl ⟨a, P, b, Q, rfl, Hv.out, K1.out⟩
def RightR (l : List ByteArray) (w : World) (e : Ending) (w' : World) : Prop := (∃ b : Bool, e = .returned (.bool b) ∧ (b = true → ∀ s ∈ l, ∃ q, RS s q)) ∧ Below w.heap.size w w'
def RightInv (l : List ByteArray) (w : World) (vi : Value) (wr : World) : Prop := ∃ k : Nat, k ≤ l.length ∧ vi = .int .i64 (k : Nat) ∧ (∀ s ∈ l.take k, ∃ q, RS s q) ∧ Below w.heap.size w wr
set_option maxHeartbeats 8000000 in
theorem rright_any (l : List ByteArray) (g n : Nat) (w : World) (hl : l.length = n) (hn0 : 0 < n) (hn : n ≤ 8) (hgw : g < w.heap.size) (hc : ∀ k s, l[k]? = some s → w.cell? ⟨g, k, none⟩ = some (.string s)) (hsz : ∀ s ∈ l, s.size ≤ 9223372036854775807) :
    Calls Tryz.prog 5 #[.slice (some ⟨g, 0, none⟩) n n] w (RightR l w) := by
  have Hl := Lib.hid hl
  have Hc := Lib.hid hc
  have Hsz := Lib.hid hsz
  clear hc hsz hl
  go_enter Tryz.func5, Tryz.ntmps5
  go_wp2_with fail
  go_loopw [7] (fun vi wr => RightInv l w vi wr) (fun vi _ => n - (intOf vi).toNat)
  case atStart => exact ⟨0, Nat.zero_le _, rfl, fun s h => by simp at h, Below.refl _ _⟩
  case round =>
    obtain ⟨k, hk, rfl, hall, hb⟩ := hrel
    rw [Hl.out] at hk
    have Hall := Lib.hid hall
    have Hb := Lib.hid hb
    by_cases hlt : k < n
    · obtain ⟨s, hs⟩ : ∃ s, l[k]? = some s := ⟨_, List.getElem?_eq_getElem (by rw [Hl.out]; exact hlt)⟩
      have cc := (hb.cell (p := ⟨g, k, none⟩) hgw).trans (Hc.out k s hs)
      have hmem := List.mem_of_getElem? hs
      have hss := Hsz.out s hmem
      have Hs := Lib.hid hs
      clear hall hb hs hmem
      rcases Nat.lt_or_ge 40 s.size with h40 | h40
      · go_wp2
        go_ret
        exact ⟨⟨false, rfl, fun h => by cases h⟩, Hb.out⟩
      · have HC := Lib.hid (refCheckR_any s wr h40)
        go_wp2_with fail
        refine HC.out.mono ?_
        rintro e w2 ⟨⟨E, rfl, hE⟩, h2⟩
        have K2 := Lib.hid (below_on Hb.out h2)
        have HE := Lib.hid hE
        clear h2 hE
        by_cases hE0 : E = 0
        · have Hnew := Lib.hid (show RightInv l w (.int .i64 ((k + 1 : Nat) : Int)) w2 from ⟨k + 1, by rw [Hl.out]; exact hlt, rfl, fun t ht => by
            rw [List.take_add_one, Hs.out] at ht
            rcases List.mem_append.1 ht with h1 | h1
            · exact Hall.out t h1
            · have : t = s := by simpa using h1
              subst this
              exact (HE.out hE0).rs h40, K2.out⟩)
          subst hE0
          go_wp2
          exact ⟨by have := Hnew.out; rw [Int.natCast_add] at this; exact this, by simp [intOf] <;> omega⟩
        · have t0 : (E == 0) = false := by rw [beq_eq_false_iff_ne]; exact hE0
          have t1 : (E != 0) = true := by rw [bne, t0]; rfl
          clear hE0
          go_wp2
          go_ret
          exact ⟨⟨false, rfl, fun h => by cases h⟩, K2.out⟩
    · obtain rfl : k = n := by omega
      have Hfin := Lib.hid (show ∀ s ∈ l, ∃ q, RS s q from fun s hs => Hall.out s (by rw [List.take_of_length_le (by rw [Hl.out]; exact Nat.le_refl _)]; exact hs))
      clear hall hb
      go_wp2
      go_ret
      exact ⟨⟨true, rfl, fun _ => Hfin.out⟩, Hb.out⟩
/-- The rational's int, if it is one. -/
def RInt (q : Rat) (n : Int) (b : Bool) : Prop := (q.den = 1 ∧ I64 q.num → n = q.num ∧ b = true) ∧ (¬ (q.den = 1 ∧ I64 q.num) → n = 0 ∧ b = false)
def RIntPost (q : Rat) (w : World) (e : Ending) (w' : World) : Prop := (∃ n b, e = .returned (.tuple #[.int .i64 n, .bool b]) ∧ RInt q n b) ∧ Below w.heap.size w w'
theorem rsign_any (a : Int) (P : Option Addr) (b : Int) (Q : Option Addr) (q : Rat) (w : World) (h : RatV w a P b Q q) :
    Calls Tryz.prog 20 #[.agg #[.int .i64 a, .pointer P, .int .i64 b, .pointer Q]] w fun e w' => e = .returned (.int .i64 (sgn q.num)) ∧ Below w.heap.size w w' := by
  have kk := (Below.refl w.heap.size w).alloc (Nat.le_refl _) (.cells #[.int .i64 a, .pointer P, .int .i64 b, .pointer Q] 28)
  have Hs := Lib.hid (signZ_any _ q.num _ (h.num.keep kk))
  have Kk := Lib.hid kk
  obtain ⟨x, hx⟩ : ∃ x, sgn q.num = x := ⟨_, rfl⟩
  rw [hx] at Hs ⊢
  clear h kk hx
  go_enter Tryz.func20, Tryz.ntmps20
  go_wp2_with fail
  refine Hs.out.mono ?_
  rintro e w1 ⟨rfl, h1⟩
  have K1 := Lib.hid (below_on Kk.out h1)
  clear h1
  go_wp2
  go_ret
  exact ⟨rfl, K1.out⟩
theorem RS.n5 {s : ByteArray} {q : Rat} (h : RS s q) : (txt q.num).size ≤ 100 ∧ (txt (q.den : Int)).size ≤ 100 := by
  refine ⟨by have := h.nsz; omega, ?_⟩
  by_cases hd : q.den = 1
  · rw [hd, show txt ((1 : Nat) : Int) = ⟨#[49]⟩ from txt_1]; decide
  · have := h.dsz hd; omega
end Go.Proofs.YtbpbfjnndkoioaaGreatDoor
