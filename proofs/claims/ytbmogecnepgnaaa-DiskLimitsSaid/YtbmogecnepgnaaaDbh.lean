/- DiskLimits: the walk. -/
import Derived.Test.YtbmogecnepgnaaaDbg
import Derived.Test.YtbmogecnepgnaaaDbb
namespace Go.Proofs.Ytbmogecnepgnaaa
open Go.RowKit Go.Maps Go.Shelf Go.Lib
theorem made_zero (n : Nat) : (madeCells #[Value.int .u8 0] n).toList = bV (List.replicate n 0) := by
  refine List.ext_getElem? fun i => ?_
  rw [Array.getElem?_toList, List.getElem?_map, List.getElem?_replicate]
  by_cases h : i < n
  · rw [if_pos h, Array.getElem?_eq_getElem (by rw [size_madeCells]; omega)]
    simp [madeCells, Nat.mod_one]
  · rw [if_neg h, Array.getElem?_eq_none (by rw [size_madeCells]; omega)]
    rfl
theorem u8_dig : ∀ a : Nat, a < 10 → IntKind.u8.wrap (48 + (a : Int)) = 48 + (a : Int) := by decide +kernel
theorem three_text (w : World) (j : Nat) (hj : j < 64) :
    (convert 55 9 (.slice (some ⟨w.heap.size, 0, none⟩) 3 3)).run Try.prog (w.alloc (.cells #[.int .u8 98, .int .u8 (48 + ((j / 10 : Nat) : Int)), .int .u8 (48 + ((j % 10 : Nat) : Int))] 5)) = .ok (.string (nmb j)) (w.alloc (.cells #[.int .u8 98, .int .u8 (48 + ((j / 10 : Nat) : Int)), .int .u8 (48 + ((j % 10 : Nat) : Int))] 5)) := by
  have h1 : ∀ a, a < 10 → ((UInt8.ofNat (48 + a)).toNat : Int) = 48 + (a : Int) := by decide +kernel
  have hd : DataAt (w.alloc (.cells #[.int .u8 98, .int .u8 (48 + ((j / 10 : Nat) : Int)), .int .u8 (48 + ((j % 10 : Nat) : Int))] 5)) 0 (.slice (some ⟨w.heap.size, 0, none⟩) 3 3) [98, UInt8.ofNat (48 + j / 10), UInt8.ofNat (48 + j % 10)] := by
    refine .inr ⟨w.heap.size, 3, _, (0, 0), rfl, Nat.zero_le _, heap_new w _, by simp, by unfold maxLen; omega, rfl, .inr rfl, ?_⟩
    show [Value.int .u8 98, .int .u8 (48 + ((j / 10 : Nat) : Int)), .int .u8 (48 + ((j % 10 : Nat) : Int))] = [Value.int .u8 98, .int .u8 ((UInt8.ofNat (48 + j / 10)).toNat : Int), .int .u8 ((UInt8.ofNat (48 + j % 10)).toNat : Int)]
    rw [h1 _ (by omega), h1 _ (by omega)]
  exact data_text hd
set_option maxRecDepth 100000 in
set_option maxHeartbeats 16000000 in
theorem limits_any {cp : Int} {q : Nat} {w : World} (hq : q < 256) (hcp : -9223372036854775808 ≤ cp ∧ cp ≤ 9223372036854775807) :
    Calls Try.prog 5 #[.int .i64 cp, .int .u8 (q : Nat)] w fun e w' => e = .returned (.bool true) ∧ Below w.heap.size w w' := by
  obtain ⟨i0, hi, hz0, hz1, hz2⟩ := info_parts info_u8
  go_enter Try.func5, Try.ntmps5
  by_cases hg : 0 ≤ cp ∧ cp ≤ 16777216
  · obtain ⟨c, rfl⟩ : ∃ c : Nat, cp = (c : Int) := ⟨cp.toNat, by omega⟩
    have t0 : ¬ ((16777216 : Int) < (c : Int)) := by omega
    have t1 : (c : Int) ≤ 16777216 := by omega
    have t2 : (0 : Int) ≤ (c : Int) := by omega
    have t3 : decide ((c : Int) ≤ 16777216) = true := decide_eq_true t1
    have t4 : decide ((0 : Int) ≤ (c : Int)) = true := decide_eq_true t2
    go_wp2_with fail
    refine (new_ok c (by omega) w).mono ?_
    rintro e w3 ⟨p, m, rfl, hD, hm1, hm2, hb⟩
    have HD0 := Lib.hid (Disk.of (c := 0) hD (newL (by omega)) (by omega) (by omega) (by rw [hm2]; exact Nat.le_refl _))
    have HB0 := Lib.hid hb
    clear hD hm1 hm2 hb
    go_wp2_with fail
    refine (known_true w3).mono ?_
    rintro e w4 ⟨rfl, hb⟩
    have HD1 := Lib.hid (HD0.out.keep hb)
    have HB1 := Lib.hid (below_on HB0.out hb)
    clear hb HD0 HB0
    go_wp2_with fail
    have hq1 := free_any HD1.out (by decide)
    rw [show frV (newS c) = c from rfl] at hq1
    refine hq1.mono ?_
    rintro e w5 ⟨rfl, hD, hb⟩
    have HD2 := Lib.hid hD
    have HB2 := Lib.hid (HB1.out.trans hb)
    clear hD hb hq1
    go_wp2_with fail
    refine (names_any HD2.out (by decide)).mono ?_
    rintro e w6 ⟨v, rfl, ss, hp, _, ho, hb⟩
    have hp0 : ss.Perm [] := hp
    obtain rfl := hp0.eq_nil
    obtain ⟨A9, c9, rfl, _⟩ := own_row ho
    have HD3 := Lib.hid (HD2.out.keep hb)
    have HB3 := Lib.hid (below_on HB2.out hb)
    clear hb ho hp hp0
    go_wp2_with fail
    refine (down_any HD3.out).mono ?_
    rintro e w7 ⟨rfl, rfl⟩
    rw [show (newS c).down = false from rfl]
    have HBO := Lib.hid HB3.out
    have e1 : IntKind.i64.wrap (q : Int) = (q : Int) := IntWalk.i64_in _ (by omega)
    go_wp2_with fail
    refine (new_ok q (by omega) w7).mono ?_
    rintro e v3 ⟨p, m, rfl, hD, hm1, hm2, hb⟩
    have HD0 := Lib.hid (Disk.of (c := 0) hD (newL (by omega)) (by omega) (by omega) (by rw [hm2]; exact Nat.le_refl _))
    have HB0 := Lib.hid hb
    clear hD hm1 hm2 hb
    go_wp2_with (at_make; refine wpList_make_full _ rfl _ _ 55 rfl v3.heap.size 5 i0 (.int .u8 0) 1 Try.underlying55 hi hz0 hz1 _ _ _ _ q rfl rfl rfl rfl (by rw [hz2]; omega) (by unfold maxLen; omega) (Nat.le_refl _) ?_)
    intro v4 ho hg
    rw [made_zero] at ho
    have hd := data_text (DataAt.of_own ho)
    have hb : Below v3.heap.size v3 v4 := ⟨hg.os, hg.tape, hg.output, hg.size, fun k hk => hg.block k hk (fun e => by cases e)⟩
    have HD1 := Lib.hid (HD0.out.keep hb)
    have HB1 := Lib.hid (HB0.out.trans (hb.mono HB0.out.size))
    clear hb ho hg
    obtain ⟨S, hS⟩ : ∃ S : ByteArray, (⟨(List.replicate q (0 : UInt8)).toArray⟩ : ByteArray) = S := ⟨_, rfl⟩
    have hSq : S.size = q := by rw [← hS]; show (List.replicate q (0 : UInt8)).toArray.size = q; simp
    rw [hS] at hd
    clear hS
    have HSq := Lib.hid hSq
    go_wp2_with fail
    have hq1 := append_any HD1.out (by decide) bA S (by decide) (by omega)
    rw [(l1 q 0 S hSq).1] at hq1
    refine hq1.mono ?_
    rintro e v5 ⟨b, rfl, hD, _, hb⟩
    rw [(l1 q b S hSq).2] at hD
    have HD2 := Lib.hid hD
    have HB2 := Lib.hid (HB1.out.trans hb)
    have HL2 := Lib.hid (l1_li q b S hSq)
    clear hD hb hq1 hSq hd
    go_wp2_with fail
    have hq1 := free_any HD2.out (by decide)
    rw [HL2.out.free] at hq1
    refine hq1.mono ?_
    rintro e v6 ⟨rfl, hD, hb⟩
    have HD3 := Lib.hid hD
    have HB3 := Lib.hid (HB2.out.trans hb)
    clear hD hb hq1
    go_wp2_with fail
    have hq1 := append_any HD3.out (by decide) bA ⟨#[120]⟩ (by decide) (by decide)
    rw [HL2.out.over.1] at hq1
    refine hq1.mono ?_
    rintro e v7 ⟨b7, rfl, hD, _, hb⟩
    rw [HL2.out.over.2] at hD
    have HD4 := Lib.hid hD
    have HB4 := Lib.hid (HB3.out.trans hb)
    clear hD hb hq1
    go_wp2_with fail
    have hq1 := append_any HD4.out (by decide) bA ⟨#[]⟩ (by decide) (by decide)
    rw [HL2.out.again.1] at hq1
    refine hq1.mono ?_
    rintro e v8 ⟨b8, rfl, hD, _, hb⟩
    rw [HL2.out.again.2] at hD
    have HD5 := Lib.hid hD
    have HB5 := Lib.hid (HB4.out.trans hb)
    clear hD hb hq1
    go_wp2_with fail
    go_loopw [11] (fun i wr => ∃ (j : Nat) (s : St), i = .int .i64 (j : Nat) ∧ 1 ≤ j ∧ j ≤ 64 ∧ LI s q j ∧ Disk wr w7.heap.size p s (j + 3) ∧ Below w7.heap.size w7 wr) (fun i _ => 64 - (intOf i).toNat)
    case atStart => exact ⟨1, _, rfl, Nat.le_refl _, by decide, HL2.out, HD5.out.mono (by decide), HB5.out⟩
    case round =>
      obtain ⟨j, s, rfl, hj1, hj, hL, hD, hB⟩ := hrel
      have HL := Lib.hid hL
      have HD := Lib.hid hD
      have HB := Lib.hid hB
      clear hL hD hB
      by_cases hlt : j < 64
      · have i1 : (j : Int) < 64 := by omega
        have i2 : IntKind.i64.wrap ((j : Int) + 1) = (j : Int) + 1 := IntWalk.i64_in _ (by omega)
        have ht := three_text wr j hlt
        obtain ⟨a, ha⟩ : ∃ a, j / 10 = a := ⟨_, rfl⟩
        obtain ⟨c, hc⟩ : ∃ c, j % 10 = c := ⟨_, rfl⟩
        have d1 : (j : Int).tdiv 10 = (a : Nat) := by rw [← ha]; exact (Int.ofNat_tdiv j 10).symm
        have d2 : (j : Int).tmod 10 = (c : Nat) := by rw [← hc]; exact (Int.ofNat_tmod j 10).symm
        have d3 : IntKind.i64.wrap (a : Int) = (a : Int) := IntWalk.i64_in _ (by omega)
        have d4 : IntKind.i64.wrap (c : Int) = (c : Int) := IntWalk.i64_in _ (by omega)
        have d5 : IntKind.i64.wrap (48 + (a : Int)) = 48 + (a : Int) := IntWalk.i64_in _ (by omega)
        have d6 : IntKind.i64.wrap (48 + (c : Int)) = 48 + (c : Int) := IntWalk.i64_in _ (by omega)
        have d7 := u8_dig a (by omega)
        have d8 := u8_dig c (by omega)
        rw [ha, hc] at ht
        have kx := (Below.refl wr.heap.size wr).alloc (Nat.le_refl _) (.cells #[.int .u8 98, .int .u8 (48 + (a : Int)), .int .u8 (48 + (c : Int))] 5)
        have HD' := Lib.hid (HD.out.keep kx)
        have HB' := Lib.hid (HB.out.trans (kx.mono HB.out.size))
        clear ha hc kx
        obtain ⟨N, hN⟩ : ∃ N, nmb j = N := ⟨_, rfl⟩
        rw [hN] at ht
        have HN := Lib.hid hN
        clear hN
        go_wp2_with fail
        have hq1 := append_any HD'.out (by omega) N ⟨#[]⟩ (by rw [← HN.out]; show 3 ≤ 1000000; omega) (by decide)
        rw [← HN.out] at hq1
        have h1 : apE s (nmb j) ⟨#[]⟩ = 0 := by unfold apE; rw [if_pos (HL.out.ap hlt)]; unfold cntE; rw [if_neg (by rw [HL.out.lim]; decide)]
        rw [h1] at hq1
        rw [← HN.out]
        refine hq1.mono ?_
        rintro e v9 ⟨b9, rfl, hD, hfr, hb⟩
        have HL' := Lib.hid (HL.out.next HD.out.dl hlt (hfr (HL.out.ap hlt))).2
        have HD9 := Lib.hid hD
        have HB9 := Lib.hid (HB'.out.trans hb)
        clear hD hb hq1 h1 hfr
        go_wp2_with fail
        go_roundw
        case rel => exact ⟨j + 1, _, by go_num, by omega, by omega, HL'.out, HD9.out, HB9.out⟩
        case measure => simp [intOf]; omega
      · have hj64 : j = 64 := by omega
        subst hj64
        go_wp2_with fail
        have hq1 := append_any HD.out (by decide) bC ⟨#[]⟩ (by decide) (by decide)
        rw [HL.out.full.1] at hq1
        refine hq1.mono ?_
        rintro e v9 ⟨b9, rfl, hD, _, hb⟩
        rw [HL.out.full.2] at hD
        have HD9 := Lib.hid hD
        have HB9 := Lib.hid (HB.out.trans hb)
        clear hD hb hq1
        go_wp2_with fail
        have hq1 := append_any HD9.out (by decide) bA ⟨#[]⟩ (by decide) (by decide)
        rw [HL.out.again.1] at hq1
        refine hq1.mono ?_
        rintro e v10 ⟨b10, rfl, hD, _, hb⟩
        rw [HL.out.again.2] at hD
        have HD10 := Lib.hid hD
        have HB10 := Lib.hid (HB9.out.trans hb)
        clear hD hb hq1
        go_wp2_with fail
        refine (names_any HD10.out (by decide)).mono ?_
        rintro e v11 ⟨v, rfl, ss, hp, _, ho, hb⟩
        rw [if_neg (by rw [HL.out.dn]; decide)] at hp
        have hlen : ss.length = 64 := by rw [hp.length_eq, keys_len HD10.out.dl.t1.isMap, HL.out.sz]
        obtain ⟨A9, c9, rfl, _⟩ := own_row ho
        rw [hlen]
        have HB11 := Lib.hid (below_on HB10.out hb)
        clear hb ho hp hlen
        go_wp2_with fail
        go_ret
        exact ⟨rfl, (below_on HBO.out HB11.out)⟩

  · by_cases h0 : cp < 0
    · have t0 : ¬ (0 ≤ cp) := by omega
      have t1 : decide (0 ≤ cp) = false := decide_eq_false t0
      have HX := Lib.hid (new_bad cp (.inl h0) w)
      clear h0 hg
      go_wp2_with fail
      refine HX.out.mono ?_
      rintro e w3 ⟨rfl, rfl⟩
      go_wp2_with fail
      refine (known_true w3).mono ?_
      rintro e w4 ⟨rfl, hb⟩
      have HB1 := Lib.hid hb
      clear hb
      have HBO := Lib.hid HB1.out
      have e1 : IntKind.i64.wrap (q : Int) = (q : Int) := IntWalk.i64_in _ (by omega)
      go_wp2_with fail
      refine (new_ok q (by omega) w4).mono ?_
      rintro e v3 ⟨p, m, rfl, hD, hm1, hm2, hb⟩
      have HD0 := Lib.hid (Disk.of (c := 0) hD (newL (by omega)) (by omega) (by omega) (by rw [hm2]; exact Nat.le_refl _))
      have HB0 := Lib.hid hb
      clear hD hm1 hm2 hb
      go_wp2_with (at_make; refine wpList_make_full _ rfl _ _ 55 rfl v3.heap.size 5 i0 (.int .u8 0) 1 Try.underlying55 hi hz0 hz1 _ _ _ _ q rfl rfl rfl rfl (by rw [hz2]; omega) (by unfold maxLen; omega) (Nat.le_refl _) ?_)
      intro v4 ho hg
      rw [made_zero] at ho
      have hd := data_text (DataAt.of_own ho)
      have hb : Below v3.heap.size v3 v4 := ⟨hg.os, hg.tape, hg.output, hg.size, fun k hk => hg.block k hk (fun e => by cases e)⟩
      have HD1 := Lib.hid (HD0.out.keep hb)
      have HB1 := Lib.hid (HB0.out.trans (hb.mono HB0.out.size))
      clear hb ho hg
      obtain ⟨S, hS⟩ : ∃ S : ByteArray, (⟨(List.replicate q (0 : UInt8)).toArray⟩ : ByteArray) = S := ⟨_, rfl⟩
      have hSq : S.size = q := by rw [← hS]; show (List.replicate q (0 : UInt8)).toArray.size = q; simp
      rw [hS] at hd
      clear hS
      have HSq := Lib.hid hSq
      go_wp2_with fail
      have hq1 := append_any HD1.out (by decide) bA S (by decide) (by omega)
      rw [(l1 q 0 S hSq).1] at hq1
      refine hq1.mono ?_
      rintro e v5 ⟨b, rfl, hD, _, hb⟩
      rw [(l1 q b S hSq).2] at hD
      have HD2 := Lib.hid hD
      have HB2 := Lib.hid (HB1.out.trans hb)
      have HL2 := Lib.hid (l1_li q b S hSq)
      clear hD hb hq1 hSq hd
      go_wp2_with fail
      have hq1 := free_any HD2.out (by decide)
      rw [HL2.out.free] at hq1
      refine hq1.mono ?_
      rintro e v6 ⟨rfl, hD, hb⟩
      have HD3 := Lib.hid hD
      have HB3 := Lib.hid (HB2.out.trans hb)
      clear hD hb hq1
      go_wp2_with fail
      have hq1 := append_any HD3.out (by decide) bA ⟨#[120]⟩ (by decide) (by decide)
      rw [HL2.out.over.1] at hq1
      refine hq1.mono ?_
      rintro e v7 ⟨b7, rfl, hD, _, hb⟩
      rw [HL2.out.over.2] at hD
      have HD4 := Lib.hid hD
      have HB4 := Lib.hid (HB3.out.trans hb)
      clear hD hb hq1
      go_wp2_with fail
      have hq1 := append_any HD4.out (by decide) bA ⟨#[]⟩ (by decide) (by decide)
      rw [HL2.out.again.1] at hq1
      refine hq1.mono ?_
      rintro e v8 ⟨b8, rfl, hD, _, hb⟩
      rw [HL2.out.again.2] at hD
      have HD5 := Lib.hid hD
      have HB5 := Lib.hid (HB4.out.trans hb)
      clear hD hb hq1
      go_wp2_with fail
      go_loopw [11] (fun i wr => ∃ (j : Nat) (s : St), i = .int .i64 (j : Nat) ∧ 1 ≤ j ∧ j ≤ 64 ∧ LI s q j ∧ Disk wr w4.heap.size p s (j + 3) ∧ Below w4.heap.size w4 wr) (fun i _ => 64 - (intOf i).toNat)
      case atStart => exact ⟨1, _, rfl, Nat.le_refl _, by decide, HL2.out, HD5.out.mono (by decide), HB5.out⟩
      case round =>
        obtain ⟨j, s, rfl, hj1, hj, hL, hD, hB⟩ := hrel
        have HL := Lib.hid hL
        have HD := Lib.hid hD
        have HB := Lib.hid hB
        clear hL hD hB
        by_cases hlt : j < 64
        · have i1 : (j : Int) < 64 := by omega
          have i2 : IntKind.i64.wrap ((j : Int) + 1) = (j : Int) + 1 := IntWalk.i64_in _ (by omega)
          have ht := three_text wr j hlt
          obtain ⟨a, ha⟩ : ∃ a, j / 10 = a := ⟨_, rfl⟩
          obtain ⟨c, hc⟩ : ∃ c, j % 10 = c := ⟨_, rfl⟩
          have d1 : (j : Int).tdiv 10 = (a : Nat) := by rw [← ha]; exact (Int.ofNat_tdiv j 10).symm
          have d2 : (j : Int).tmod 10 = (c : Nat) := by rw [← hc]; exact (Int.ofNat_tmod j 10).symm
          have d3 : IntKind.i64.wrap (a : Int) = (a : Int) := IntWalk.i64_in _ (by omega)
          have d4 : IntKind.i64.wrap (c : Int) = (c : Int) := IntWalk.i64_in _ (by omega)
          have d5 : IntKind.i64.wrap (48 + (a : Int)) = 48 + (a : Int) := IntWalk.i64_in _ (by omega)
          have d6 : IntKind.i64.wrap (48 + (c : Int)) = 48 + (c : Int) := IntWalk.i64_in _ (by omega)
          have d7 := u8_dig a (by omega)
          have d8 := u8_dig c (by omega)
          rw [ha, hc] at ht
          have kx := (Below.refl wr.heap.size wr).alloc (Nat.le_refl _) (.cells #[.int .u8 98, .int .u8 (48 + (a : Int)), .int .u8 (48 + (c : Int))] 5)
          have HD' := Lib.hid (HD.out.keep kx)
          have HB' := Lib.hid (HB.out.trans (kx.mono HB.out.size))
          clear ha hc kx
          obtain ⟨N, hN⟩ : ∃ N, nmb j = N := ⟨_, rfl⟩
          rw [hN] at ht
          have HN := Lib.hid hN
          clear hN
          go_wp2_with fail
          have hq1 := append_any HD'.out (by omega) N ⟨#[]⟩ (by rw [← HN.out]; show 3 ≤ 1000000; omega) (by decide)
          rw [← HN.out] at hq1
          have h1 : apE s (nmb j) ⟨#[]⟩ = 0 := by unfold apE; rw [if_pos (HL.out.ap hlt)]; unfold cntE; rw [if_neg (by rw [HL.out.lim]; decide)]
          rw [h1] at hq1
          rw [← HN.out]
          refine hq1.mono ?_
          rintro e v9 ⟨b9, rfl, hD, hfr, hb⟩
          have HL' := Lib.hid (HL.out.next HD.out.dl hlt (hfr (HL.out.ap hlt))).2
          have HD9 := Lib.hid hD
          have HB9 := Lib.hid (HB'.out.trans hb)
          clear hD hb hq1 h1 hfr
          go_wp2_with fail
          go_roundw
          case rel => exact ⟨j + 1, _, by go_num, by omega, by omega, HL'.out, HD9.out, HB9.out⟩
          case measure => simp [intOf]; omega
        · have hj64 : j = 64 := by omega
          subst hj64
          go_wp2_with fail
          have hq1 := append_any HD.out (by decide) bC ⟨#[]⟩ (by decide) (by decide)
          rw [HL.out.full.1] at hq1
          refine hq1.mono ?_
          rintro e v9 ⟨b9, rfl, hD, _, hb⟩
          rw [HL.out.full.2] at hD
          have HD9 := Lib.hid hD
          have HB9 := Lib.hid (HB.out.trans hb)
          clear hD hb hq1
          go_wp2_with fail
          have hq1 := append_any HD9.out (by decide) bA ⟨#[]⟩ (by decide) (by decide)
          rw [HL.out.again.1] at hq1
          refine hq1.mono ?_
          rintro e v10 ⟨b10, rfl, hD, _, hb⟩
          rw [HL.out.again.2] at hD
          have HD10 := Lib.hid hD
          have HB10 := Lib.hid (HB9.out.trans hb)
          clear hD hb hq1
          go_wp2_with fail
          refine (names_any HD10.out (by decide)).mono ?_
          rintro e v11 ⟨v, rfl, ss, hp, _, ho, hb⟩
          rw [if_neg (by rw [HL.out.dn]; decide)] at hp
          have hlen : ss.length = 64 := by rw [hp.length_eq, keys_len HD10.out.dl.t1.isMap, HL.out.sz]
          obtain ⟨A9, c9, rfl, _⟩ := own_row ho
          rw [hlen]
          have HB11 := Lib.hid (below_on HB10.out hb)
          clear hb ho hp hlen
          go_wp2_with fail
          go_ret
          exact ⟨rfl, (below_on HBO.out HB11.out)⟩

    · have t0 : 0 ≤ cp := by omega
      have t1 : decide (0 ≤ cp) = true := decide_eq_true t0
      have t2 : ¬ (cp ≤ 16777216) := by omega
      have t3 : decide (cp ≤ 16777216) = false := decide_eq_false t2
      have HX := Lib.hid (new_bad cp (.inr (by omega)) w)
      clear h0 hg
      go_wp2_with fail
      refine HX.out.mono ?_
      rintro e w3 ⟨rfl, rfl⟩
      go_wp2_with fail
      refine (known_true w3).mono ?_
      rintro e w4 ⟨rfl, hb⟩
      have HB1 := Lib.hid hb
      clear hb
      have HBO := Lib.hid HB1.out
      have e1 : IntKind.i64.wrap (q : Int) = (q : Int) := IntWalk.i64_in _ (by omega)
      go_wp2_with fail
      refine (new_ok q (by omega) w4).mono ?_
      rintro e v3 ⟨p, m, rfl, hD, hm1, hm2, hb⟩
      have HD0 := Lib.hid (Disk.of (c := 0) hD (newL (by omega)) (by omega) (by omega) (by rw [hm2]; exact Nat.le_refl _))
      have HB0 := Lib.hid hb
      clear hD hm1 hm2 hb
      go_wp2_with (at_make; refine wpList_make_full _ rfl _ _ 55 rfl v3.heap.size 5 i0 (.int .u8 0) 1 Try.underlying55 hi hz0 hz1 _ _ _ _ q rfl rfl rfl rfl (by rw [hz2]; omega) (by unfold maxLen; omega) (Nat.le_refl _) ?_)
      intro v4 ho hg
      rw [made_zero] at ho
      have hd := data_text (DataAt.of_own ho)
      have hb : Below v3.heap.size v3 v4 := ⟨hg.os, hg.tape, hg.output, hg.size, fun k hk => hg.block k hk (fun e => by cases e)⟩
      have HD1 := Lib.hid (HD0.out.keep hb)
      have HB1 := Lib.hid (HB0.out.trans (hb.mono HB0.out.size))
      clear hb ho hg
      obtain ⟨S, hS⟩ : ∃ S : ByteArray, (⟨(List.replicate q (0 : UInt8)).toArray⟩ : ByteArray) = S := ⟨_, rfl⟩
      have hSq : S.size = q := by rw [← hS]; show (List.replicate q (0 : UInt8)).toArray.size = q; simp
      rw [hS] at hd
      clear hS
      have HSq := Lib.hid hSq
      go_wp2_with fail
      have hq1 := append_any HD1.out (by decide) bA S (by decide) (by omega)
      rw [(l1 q 0 S hSq).1] at hq1
      refine hq1.mono ?_
      rintro e v5 ⟨b, rfl, hD, _, hb⟩
      rw [(l1 q b S hSq).2] at hD
      have HD2 := Lib.hid hD
      have HB2 := Lib.hid (HB1.out.trans hb)
      have HL2 := Lib.hid (l1_li q b S hSq)
      clear hD hb hq1 hSq hd
      go_wp2_with fail
      have hq1 := free_any HD2.out (by decide)
      rw [HL2.out.free] at hq1
      refine hq1.mono ?_
      rintro e v6 ⟨rfl, hD, hb⟩
      have HD3 := Lib.hid hD
      have HB3 := Lib.hid (HB2.out.trans hb)
      clear hD hb hq1
      go_wp2_with fail
      have hq1 := append_any HD3.out (by decide) bA ⟨#[120]⟩ (by decide) (by decide)
      rw [HL2.out.over.1] at hq1
      refine hq1.mono ?_
      rintro e v7 ⟨b7, rfl, hD, _, hb⟩
      rw [HL2.out.over.2] at hD
      have HD4 := Lib.hid hD
      have HB4 := Lib.hid (HB3.out.trans hb)
      clear hD hb hq1
      go_wp2_with fail
      have hq1 := append_any HD4.out (by decide) bA ⟨#[]⟩ (by decide) (by decide)
      rw [HL2.out.again.1] at hq1
      refine hq1.mono ?_
      rintro e v8 ⟨b8, rfl, hD, _, hb⟩
      rw [HL2.out.again.2] at hD
      have HD5 := Lib.hid hD
      have HB5 := Lib.hid (HB4.out.trans hb)
      clear hD hb hq1
      go_wp2_with fail
      go_loopw [11] (fun i wr => ∃ (j : Nat) (s : St), i = .int .i64 (j : Nat) ∧ 1 ≤ j ∧ j ≤ 64 ∧ LI s q j ∧ Disk wr w4.heap.size p s (j + 3) ∧ Below w4.heap.size w4 wr) (fun i _ => 64 - (intOf i).toNat)
      case atStart => exact ⟨1, _, rfl, Nat.le_refl _, by decide, HL2.out, HD5.out.mono (by decide), HB5.out⟩
      case round =>
        obtain ⟨j, s, rfl, hj1, hj, hL, hD, hB⟩ := hrel
        have HL := Lib.hid hL
        have HD := Lib.hid hD
        have HB := Lib.hid hB
        clear hL hD hB
        by_cases hlt : j < 64
        · have i1 : (j : Int) < 64 := by omega
          have i2 : IntKind.i64.wrap ((j : Int) + 1) = (j : Int) + 1 := IntWalk.i64_in _ (by omega)
          have ht := three_text wr j hlt
          obtain ⟨a, ha⟩ : ∃ a, j / 10 = a := ⟨_, rfl⟩
          obtain ⟨c, hc⟩ : ∃ c, j % 10 = c := ⟨_, rfl⟩
          have d1 : (j : Int).tdiv 10 = (a : Nat) := by rw [← ha]; exact (Int.ofNat_tdiv j 10).symm
          have d2 : (j : Int).tmod 10 = (c : Nat) := by rw [← hc]; exact (Int.ofNat_tmod j 10).symm
          have d3 : IntKind.i64.wrap (a : Int) = (a : Int) := IntWalk.i64_in _ (by omega)
          have d4 : IntKind.i64.wrap (c : Int) = (c : Int) := IntWalk.i64_in _ (by omega)
          have d5 : IntKind.i64.wrap (48 + (a : Int)) = 48 + (a : Int) := IntWalk.i64_in _ (by omega)
          have d6 : IntKind.i64.wrap (48 + (c : Int)) = 48 + (c : Int) := IntWalk.i64_in _ (by omega)
          have d7 := u8_dig a (by omega)
          have d8 := u8_dig c (by omega)
          rw [ha, hc] at ht
          have kx := (Below.refl wr.heap.size wr).alloc (Nat.le_refl _) (.cells #[.int .u8 98, .int .u8 (48 + (a : Int)), .int .u8 (48 + (c : Int))] 5)
          have HD' := Lib.hid (HD.out.keep kx)
          have HB' := Lib.hid (HB.out.trans (kx.mono HB.out.size))
          clear ha hc kx
          obtain ⟨N, hN⟩ : ∃ N, nmb j = N := ⟨_, rfl⟩
          rw [hN] at ht
          have HN := Lib.hid hN
          clear hN
          go_wp2_with fail
          have hq1 := append_any HD'.out (by omega) N ⟨#[]⟩ (by rw [← HN.out]; show 3 ≤ 1000000; omega) (by decide)
          rw [← HN.out] at hq1
          have h1 : apE s (nmb j) ⟨#[]⟩ = 0 := by unfold apE; rw [if_pos (HL.out.ap hlt)]; unfold cntE; rw [if_neg (by rw [HL.out.lim]; decide)]
          rw [h1] at hq1
          rw [← HN.out]
          refine hq1.mono ?_
          rintro e v9 ⟨b9, rfl, hD, hfr, hb⟩
          have HL' := Lib.hid (HL.out.next HD.out.dl hlt (hfr (HL.out.ap hlt))).2
          have HD9 := Lib.hid hD
          have HB9 := Lib.hid (HB'.out.trans hb)
          clear hD hb hq1 h1 hfr
          go_wp2_with fail
          go_roundw
          case rel => exact ⟨j + 1, _, by go_num, by omega, by omega, HL'.out, HD9.out, HB9.out⟩
          case measure => simp [intOf]; omega
        · have hj64 : j = 64 := by omega
          subst hj64
          go_wp2_with fail
          have hq1 := append_any HD.out (by decide) bC ⟨#[]⟩ (by decide) (by decide)
          rw [HL.out.full.1] at hq1
          refine hq1.mono ?_
          rintro e v9 ⟨b9, rfl, hD, _, hb⟩
          rw [HL.out.full.2] at hD
          have HD9 := Lib.hid hD
          have HB9 := Lib.hid (HB.out.trans hb)
          clear hD hb hq1
          go_wp2_with fail
          have hq1 := append_any HD9.out (by decide) bA ⟨#[]⟩ (by decide) (by decide)
          rw [HL.out.again.1] at hq1
          refine hq1.mono ?_
          rintro e v10 ⟨b10, rfl, hD, _, hb⟩
          rw [HL.out.again.2] at hD
          have HD10 := Lib.hid hD
          have HB10 := Lib.hid (HB9.out.trans hb)
          clear hD hb hq1
          go_wp2_with fail
          refine (names_any HD10.out (by decide)).mono ?_
          rintro e v11 ⟨v, rfl, ss, hp, _, ho, hb⟩
          rw [if_neg (by rw [HL.out.dn]; decide)] at hp
          have hlen : ss.length = 64 := by rw [hp.length_eq, keys_len HD10.out.dl.t1.isMap, HL.out.sz]
          obtain ⟨A9, c9, rfl, _⟩ := own_row ho
          rw [hlen]
          have HB11 := Lib.hid (below_on HB10.out hb)
          clear hb ho hp hlen
          go_wp2_with fail
          go_ret
          exact ⟨rfl, (below_on HBO.out HB11.out)⟩

end Go.Proofs.Ytbmogecnepgnaaa
