/- Start: the walk. -/
import Derived.Test.YtbmogecnepgnaaaDt
namespace Go.Proofs.Ytbmogecnepgnaaa
open Go.RowKit Go.Maps Go.Shelf
set_option maxRecDepth 100000 in
set_option maxHeartbeats 16000000 in
theorem start_any {w : World} {B p c : Nat} {s : St} (hD : Disk w B p s c) (hc : c < 1000000) (hdn : s.down = true) {A : Option Addr} {n cl : Nat} {l : List Int} (hl : IntL w A l) (hlk : ∀ b o t, l ≠ [] → A = some ⟨b, o, t⟩ → b < w.heap.size ∧ (b < B ∨ ∃ cur fz, w.heap[b]? = some (.cells cur 3 fz))) (hn : l.length = n) (hb : ∀ x ∈ l, -9223372036854775808 ≤ x ∧ x ≤ 9223372036854775807) :
    Calls Try.prog 34 #[ptrV p, .slice A n cl] w fun e w' => (∃ v, e = .returned v) ∧ (∃ ss : List (List UInt8), ss.Perm (strKeys (stD s l)) ∧ ss.Pairwise (fun a b => decide (a ≤ b) = true) ∧ Disk w' B p (stS s l ss) c) ∧ Below B w w' := by
  obtain ⟨m, h, hl0, hn1, hn2, hno⟩ := hD
  obtain ⟨PA, pc, hpv, hopc, hpcm, hP0, hPc⟩ := own_row h.con.pd
  obtain ⟨_, c1, c2, c3, c4, _, _⟩ := h.at4
  rw [hdn] at c4
  have hlow := h.low
  have hltp := row_lt h.obj
  have HM := Lib.hid h
  have HL := Lib.hid hl0
  have Hdn := Lib.hid hdn
  have HCh := Lib.hid (choices_any A n cl B l w (by omega) hl hlk hn hb)
  obtain ⟨on, hon⟩ : ∃ q, s.ops.length = q := ⟨_, rfl⟩
  rw [hon] at hpv hopc hP0 hno
  have Hpv := Lib.hid hpv
  have Hon := Lib.hid (show s.ops.length = on ∧ on ≤ 1000000 from ⟨hon, by omega⟩)
  obtain ⟨k0, hk0⟩ : ∃ q, chN l 0 on = q := ⟨_, rfl⟩
  have hkle := chN_le l 0 on
  rw [hk0] at hkle
  have Hk0 := Lib.hid hk0
  have HP0 := Lib.hid hP0
  clear h hl0 hdn hl hlk hn hb hon hPc hpv hP0
  go_enter Try.func34, Try.ntmps34
  go_wp2_with fail
  refine HCh.out.mono ?_
  rintro e w2 ⟨rfl, hA, hb⟩
  obtain ⟨cb, hcb⟩ : ∃ q, w.heap.size + 1 = q := ⟨_, rfl⟩
  obtain ⟨sb, hsb⟩ : ∃ q, w.heap.size = q := ⟨_, rfl⟩
  rw [hcb, hsb] at hA
  rw [hcb, hsb]
  have HA := Lib.hid hA
  have HM2 := Lib.hid (HM.out.keep hb)
  have HB2 := Lib.hid (hb.mono (show B ≤ w.heap.size by omega))
  clear hA hb hcb hsb c1 c2 c3 c4
  have e6 : (k0 : Int) ≤ (pc : Int) := by omega
  have e7 : k0 ≤ pc := by omega
  have mixed : Try.prog.follows .mixedOrders = true := by kernel_rfl
  go_upto_region 2 with fail
  go_cut [31, 32, 33] (fun a b i wx => a = .slice PA k0 pc ∧ b = .int .i64 (k0 : Nat) ∧ i = .int .i64 0 ∧ DM wx B p m s ∧ ScA wx B cb sb A n cl l 1 ∧ Below B w wx)
  case first =>
    have HS := Lib.hid (fun w' (hb : Below w2.heap.size w2 w') => (show w'.cell? ⟨p, 3, none⟩ = some (.slice PA on pc) by rw [← Hpv.out]; exact (HM2.out.keep hb).at4.2.2.2.1))
    refine Till.begin 11 (fun w' => w'.cell? ⟨p, 3, none⟩ = some (.slice PA on pc)) (by kernel_rfl) (HS.out _ (Below.refl _ _).drew) (fun hH => ?_)
    clear hH
    have HB0 := Lib.hid (Below.refl w2.heap.size w2).drew
    generalize w2.drew = V0 at HB0 ⊢
    try simp only [List.setIfInBounds_toArray, List.set_cons_zero, List.set_cons_succ]
    refine Till.tL 0 [1, 2, 3, 11] 20 (ptrV p) (HS.out _ HB0.out) ?_
    try simp only [Act.put, List.setIfInBounds_toArray, List.set_cons_zero, List.set_cons_succ]
    refine Till.tL 1 [2, 3, 11] 21 (ptrV p) (HS.out _ HB0.out) ?_
    try simp only [Act.put, List.setIfInBounds_toArray, List.set_cons_zero, List.set_cons_succ]
    refine Till.tL 2 [3, 11] 22 (.pointer (some ⟨p, 3, none⟩)) (HS.out _ HB0.out) ?_
    try simp only [Act.put, List.setIfInBounds_toArray, List.set_cons_zero, List.set_cons_succ]
    refine Till.tL 3 [11] 23 (.slice PA on pc) (HS.out _ HB0.out) ?_
    try simp only [Act.put, List.setIfInBounds_toArray, List.set_cons_zero, List.set_cons_succ]
    refine Till.tL 4 [10, 11] 24 (scV cb sb) (HS.out _ HB0.out) ?_
    try simp only [Act.put, List.setIfInBounds_toArray, List.set_cons_zero, List.set_cons_succ]
    refine Till.tL 5 [6, 7, 8, 9, 10, 11] 25 (ptrV p) (HS.out _ HB0.out) ?_
    try simp only [Act.put, List.setIfInBounds_toArray, List.set_cons_zero, List.set_cons_succ]
    refine Till.tL 6 [7, 8, 9, 10, 11] 26 (ptrV p) (HS.out _ HB0.out) ?_
    try simp only [Act.put, List.setIfInBounds_toArray, List.set_cons_zero, List.set_cons_succ]
    refine Till.tL 7 [8, 9, 10, 11] 27 (.pointer (some ⟨p, 3, none⟩)) (HS.out _ HB0.out) ?_
    try simp only [Act.put, List.setIfInBounds_toArray, List.set_cons_zero, List.set_cons_succ]
    refine Till.tL 8 [9, 10, 11] 28 (.slice PA on pc) (HS.out _ HB0.out) ?_
    try simp only [Act.put, List.setIfInBounds_toArray, List.set_cons_zero, List.set_cons_succ]
    refine Till.tL 9 [10, 11] 29 (.int .i64 (on : Nat)) (HS.out _ HB0.out) ?_
    try simp only [Act.put, List.setIfInBounds_toArray, List.set_cons_zero, List.set_cons_succ]
    refine Till.two (i := 10) (j := 13) (by kernel_rfl) rfl rfl ?_ ?_
    · intro K hK
      go_simp
      refine (choose_any (HA.out.keep HB0.out) on (by have := Hon.out; omega) (by omega)).mono ?_
      rintro e V1 ⟨rfl, hA1, hg1⟩
      have h1 := (HM2.out.keep HB0.out).script (HA.out.keep HB0.out) hg1
      have HS1 := Lib.hid (show V1.cell? ⟨p, 3, none⟩ = some (.slice PA on pc) by rw [← Hpv.out]; exact h1.at4.2.2.2.1)
      have HM3 := Lib.hid h1
      have HA3 := Lib.hid hA1
      have HB3 := Lib.hid ((HB2.out.trans (HB0.out.mono (by have := HM2.out.low; have := row_lt HM2.out.obj; omega))).trans (below_g hg1 HA.out.ge (row_lt (HA.out.keep HB0.out).cc)))
      rw [hk0]
      refine hK.out _ _ (by first | exact fun _ => HS.out _ HB0.out | exact fun _ => HS1.out | exact fun h => absurd h (by simp)) ?_
      clear hK K h1 hA1 hg1
      try simp only [List.setIfInBounds_toArray, List.set_cons_zero, List.set_cons_succ]
      refine Till.two (i := 11) (j := 13) (by kernel_rfl) rfl rfl ?_ ?_
      · intro K hK
        go_simp
        refine hK.out _ _ (by first | exact fun _ => HS.out _ HB0.out | exact fun _ => HS1.out | exact fun h => absurd h (by simp)) ?_
        clear hK K
        try simp only [List.setIfInBounds_toArray, List.set_cons_zero, List.set_cons_succ]
        refine Till.two (i := 12) (j := 13) (by kernel_rfl) rfl rfl ?_ ?_
        · intro K hK
          go_simp
          refine hK.out _ _ (by first | exact fun _ => HS.out _ HB0.out | exact fun _ => HS1.out | exact fun h => absurd h (by simp)) ?_
          clear hK K
          try simp only [List.setIfInBounds_toArray, List.set_cons_zero, List.set_cons_succ]
          refine Till.one (i := 13) (by kernel_rfl) rfl (fun K hK => ?_)
          go_simp
          refine hK.out _ _ (by first | exact fun _ => HS.out _ HB0.out | exact fun _ => HS1.out | exact fun h => absurd h (by simp)) ?_
          clear hK K
          try simp only [List.setIfInBounds_toArray, List.set_cons_zero, List.set_cons_succ]
          refine Till.done (by kernel_rfl) ?_ _
          go_wp2_with fail
          go_meet
          exact ⟨rfl, rfl, rfl, HM3.out, HA3.out, HB3.out⟩
        · intro K hK
          go_simp
          refine hK.out _ _ (by first | exact fun _ => HS.out _ HB0.out | exact fun _ => HS1.out | exact fun h => absurd h (by simp)) ?_
          clear hK K
          try simp only [List.setIfInBounds_toArray, List.set_cons_zero, List.set_cons_succ]
          refine Till.one (i := 12) (by kernel_rfl) rfl (fun K hK => ?_)
          go_simp
          refine hK.out _ _ (by first | exact fun _ => HS.out _ HB0.out | exact fun _ => HS1.out | exact fun h => absurd h (by simp)) ?_
          clear hK K
          try simp only [List.setIfInBounds_toArray, List.set_cons_zero, List.set_cons_succ]
          refine Till.done (by kernel_rfl) ?_ _
          go_wp2_with fail
          go_meet
          exact ⟨rfl, rfl, rfl, HM3.out, HA3.out, HB3.out⟩
      · intro K hK
        go_simp
        refine hK.out _ _ (by first | exact fun _ => HS.out _ HB0.out | exact fun _ => HS1.out | exact fun h => absurd h (by simp)) ?_
        clear hK K
        try simp only [List.setIfInBounds_toArray, List.set_cons_zero, List.set_cons_succ]
        refine Till.one (i := 11) (by kernel_rfl) rfl (fun K hK => ?_)
        go_simp
        refine hK.out _ _ (by first | exact fun _ => HS.out _ HB0.out | exact fun _ => HS1.out | exact fun h => absurd h (by simp)) ?_
        clear hK K
        try simp only [List.setIfInBounds_toArray, List.set_cons_zero, List.set_cons_succ]
        refine Till.one (i := 12) (by kernel_rfl) rfl (fun K hK => ?_)
        go_simp
        refine hK.out _ _ (by first | exact fun _ => HS.out _ HB0.out | exact fun _ => HS1.out | exact fun h => absurd h (by simp)) ?_
        clear hK K
        try simp only [List.setIfInBounds_toArray, List.set_cons_zero, List.set_cons_succ]
        refine Till.done (by kernel_rfl) ?_ _
        go_wp2_with fail
        go_meet
        exact ⟨rfl, rfl, rfl, HM3.out, HA3.out, HB3.out⟩
    · intro K hK
      go_simp
      refine hK.out _ _ (by first | exact fun _ => HS.out _ HB0.out | exact fun _ => HS1.out | exact fun h => absurd h (by simp)) ?_
      clear hK K
      try simp only [List.setIfInBounds_toArray, List.set_cons_zero, List.set_cons_succ]
      refine Till.one (i := 10) (by kernel_rfl) rfl (fun K hK => ?_)
      go_simp
      refine (choose_any (HA.out.keep HB0.out) on (by have := Hon.out; omega) (by omega)).mono ?_
      rintro e V1 ⟨rfl, hA1, hg1⟩
      have h1 := (HM2.out.keep HB0.out).script (HA.out.keep HB0.out) hg1
      have HS1 := Lib.hid (show V1.cell? ⟨p, 3, none⟩ = some (.slice PA on pc) by rw [← Hpv.out]; exact h1.at4.2.2.2.1)
      have HM3 := Lib.hid h1
      have HA3 := Lib.hid hA1
      have HB3 := Lib.hid ((HB2.out.trans (HB0.out.mono (by have := HM2.out.low; have := row_lt HM2.out.obj; omega))).trans (below_g hg1 HA.out.ge (row_lt (HA.out.keep HB0.out).cc)))
      rw [hk0]
      refine hK.out _ _ (by first | exact fun _ => HS.out _ HB0.out | exact fun _ => HS1.out | exact fun h => absurd h (by simp)) ?_
      clear hK K h1 hA1 hg1
      try simp only [List.setIfInBounds_toArray, List.set_cons_zero, List.set_cons_succ]
      refine Till.one (i := 11) (by kernel_rfl) rfl (fun K hK => ?_)
      go_simp
      refine hK.out _ _ (by first | exact fun _ => HS.out _ HB0.out | exact fun _ => HS1.out | exact fun h => absurd h (by simp)) ?_
      clear hK K
      try simp only [List.setIfInBounds_toArray, List.set_cons_zero, List.set_cons_succ]
      refine Till.one (i := 12) (by kernel_rfl) rfl (fun K hK => ?_)
      go_simp
      refine hK.out _ _ (by first | exact fun _ => HS.out _ HB0.out | exact fun _ => HS1.out | exact fun h => absurd h (by simp)) ?_
      clear hK K
      try simp only [List.setIfInBounds_toArray, List.set_cons_zero, List.set_cons_succ]
      refine Till.done (by kernel_rfl) ?_ _
      go_wp2_with fail
      go_meet
      exact ⟨rfl, rfl, rfl, HM3.out, HA3.out, HB3.out⟩
  case rest =>
    obtain ⟨rfl, rfl, rfl, hM, hA, hB⟩ := hcut
    have HM3 := Lib.hid hM
    have HA3 := Lib.hid hA
    have HB3 := Lib.hid hB
    clear hM hA hB HM2 HA HB2 e6 e7
    go_wp2_with fail
    go_loopw [6, 33] (fun _ i wr => ∃ j : Nat, i = .int .i64 (j : Nat) ∧ j ≤ k0 ∧ ∃ n2, DM wr B p { m with n2 := n2 } { s with D2 := runO s.D2 (s.ops.take j) } ∧ n2 ≤ m.n2 + j ∧ ScA wr B cb sb A n cl l 1 ∧ Below B w wr) (fun _ i _ => k0 - (intOf i).toNat)
    case atStart => exact ⟨0, rfl, Nat.zero_le _, m.n2, HM3.out, Nat.le_refl _, HA3.out, HB3.out⟩
    case round =>
      obtain ⟨j, rfl, hj, n2, hM, hn2', hA, hB⟩ := hrel
      by_cases hlt : j < k0
      · have i1 : (j : Int) < (k0 : Int) := by omega
        have i2 : j < k0 := hlt
        have i3 : j < pc := by omega
        have i4 : IntKind.i64.wrap ((j : Int) + 1) = (j : Int) + 1 := IntWalk.i64_in _ (by omega)
        obtain ⟨o, ho⟩ : ∃ o, s.ops[j]? = some o := ⟨_, List.getElem?_eq_getElem (by have := Hon.out.1; omega)⟩
        obtain ⟨A', c', e1, _, _, _, hcell⟩ := own_row hM.con.pd
        obtain ⟨g, e2, _, _, hz⟩ := hcell j (opV o) (by show (s.ops.map opV)[j]? = _; rw [List.getElem?_map, ho]; rfl)
        have e3 : PA = some ⟨g, 0, none⟩ := by
          have h9 : m.pv = _ := e1
          rw [Hpv.out, e2] at h9
          injection h9
        subst e3
        obtain ⟨_, _, c2, _, _, _, _⟩ := hM.at4
        have Hok := Lib.hid (HL.out.onm o (List.mem_of_getElem? ho))
        have HJ := Lib.hid (show s.ops[j]? = some o ∧ n2 < 1000000 ∧ n2 ≤ m.n2 + j from ⟨ho, by omega, hn2'⟩)
        have HM4 := Lib.hid hM
        have HA4 := Lib.hid hA
        have HB4 := Lib.hid hB
        clear hM hA hB hcell e1 e2 ho hn2' hlt
        cases o with
        | cre nm b =>
          unfold opV at hz
          have HO := Lib.hid (cre_any nm b m.md n2 _ wr HM4.out.con.dm (by have := HJ.out.2; omega) Hok.out)
          go_wp2_with fail
          refine HO.out.mono ?_
          rintro e w5 ⟨⟨v, rfl⟩, ho, hg⟩
          have HM5 := Lib.hid (HM4.out.durs hg ho)
          have HA5 := Lib.hid (HA4.out.turn hg HM4.out.con.bd (map_obj HM4.out.con.dm).choose_spec.choose_spec (fun _ _ e => by cases e) (fun _ _ e => by cases e))
          have HB5 := Lib.hid (HB4.out.trans (below_g hg HM4.out.con.bd HM4.out.con.dm.lt))
          clear ho hg hz HO
          go_wp2_with fail
          go_roundw
          case rel =>
            exact ⟨j + 1, by go_num, by omega, n2 + 1, by rw [runO_take HJ.out.1]; exact HM5.out, by have := HJ.out.2; omega, HA5.out, HB5.out⟩
          case measure => simp [intOf]; omega
        | ren a b =>
          unfold opV at hz
          have HO := Lib.hid (ren_any a b m.md n2 _ wr HM4.out.con.dm (by have := HJ.out.2; omega) Hok.out.1 Hok.out.2)
          go_wp2_with fail
          refine HO.out.mono ?_
          rintro e w5 ⟨⟨v, rfl⟩, ho, hg⟩
          have HM5 := Lib.hid (HM4.out.durs hg ho)
          have HA5 := Lib.hid (HA4.out.turn hg HM4.out.con.bd (map_obj HM4.out.con.dm).choose_spec.choose_spec (fun _ _ e => by cases e) (fun _ _ e => by cases e))
          have HB5 := Lib.hid (HB4.out.trans (below_g hg HM4.out.con.bd HM4.out.con.dm.lt))
          clear ho hg hz HO
          go_wp2_with fail
          go_roundw
          case rel =>
            exact ⟨j + 1, by go_num, by omega, n2 + 1, by rw [runO_take HJ.out.1]; exact HM5.out, by have := HJ.out.2; omega, HA5.out, HB5.out⟩
          case measure => simp [intOf]; omega
        | rem a =>
          unfold opV at hz
          have HO := Lib.hid (rem_any a m.md n2 _ wr HM4.out.con.dm Hok.out)
          go_wp2_with fail
          refine HO.out.mono ?_
          rintro e w5 ⟨⟨v, rfl⟩, ho, hg⟩
          have HM5 := Lib.hid (HM4.out.durs hg ho)
          have HA5 := Lib.hid (HA4.out.turn hg HM4.out.con.bd (map_obj HM4.out.con.dm).choose_spec.choose_spec (fun _ _ e => by cases e) (fun _ _ e => by cases e))
          have HB5 := Lib.hid (HB4.out.trans (below_g hg HM4.out.con.bd HM4.out.con.dm.lt))
          clear ho hg hz HO
          go_wp2_with fail
          go_roundw
          case rel =>
            exact ⟨j + 1, by go_num, by omega, n2, by rw [runO_take HJ.out.1]; exact HM5.out, by have := HJ.out.2; omega, HA5.out, HB5.out⟩
          case measure => simp [intOf]; omega
      · have i1 : ¬ (j : Int) < (k0 : Int) := by omega
        have hjk : j = k0 := by omega
        subst hjk
        obtain ⟨_, c1, c2, c3, _, _, _⟩ := hM.at4
        have y1 := hM.cells.fz 1
        have y3 := hM.cells.fz 3
        have hP := hM.point
        have hD0 : runO s.D2 (s.ops.take j) = stD s l := by unfold stD; rw [Hon.out.1, Hk0.out]
        have hDD := runO_ok (F := s.F) (s.ops.take j) s.D2 HL.out.r2 HL.out.t2 (okO_take _ _ _ HL.out.ok) (fun a b hab => HL.out.ro a b (List.mem_of_mem_take hab))
        rw [hD0] at hDD
        simp only [hD0] at hP
        have HDD := Lib.hid hDD
        have HP := Lib.hid hP
        have hA7 := hA.turn hP.2.2.1 hM.low hM.obj (fun _ _ e => by injection e with _ e; exact absurd e (by decide)) (fun _ _ e => by injection e with _ e; exact absurd e (by decide))
        have HB7 := Lib.hid (hB.trans (below_g hP.2.2.1 hM.low (row_lt hM.obj)))
        have HA7 := Lib.hid hA7
        have Hn2 := Lib.hid (show n2 ≤ c by omega)
        clear hM hA hB hP hDD hD0 hA7 HM3 HA3 HB3 hn2' hlt
        go_wp2_with fail
        generalize (wr.setCell ⟨p, 1, none⟩ (.map (some m.md))).setCell ⟨p, 3, none⟩ (.slice none 0 0) = W7 at HP HA7 HB7 ⊢
        clear c1 c2 c3 y1 y3
        refine (keys_call m.md W7).mono ?_
        rintro e W8 ⟨rfl, rfl⟩
        go_wp2_with fail
        refine (sorted_call HP.out.2.1.dm (by show n2 ≤ 1000000; have := Hn2.out; omega)).mono ?_
        rintro e w9 ⟨sv, ss, rfl, hp, hpw, ho, hb9⟩
        obtain ⟨A9, c9, rfl, hn9, hc9, hA9, _⟩ := own_row ho
        have hB7 : B ≤ W7.heap.size := by have := row_lt HP.out.1; omega
        have hDN : DN (.slice A9 ss.length c9) (ss.map encStr) w9 B p { m with n2 := n2 } { s with D2 := stD s l } := ⟨row_keep HP.out.1 hb9, hlow, HP.out.2.1.keep hb9, by rw [List.length_map]; exact own_down ho hB7, HP.out.2.2.2.keep hb9⟩
        have HN0 := Lib.hid hDN
        have HA9 := Lib.hid (HA7.out.keep hb9)
        have HB9 := Lib.hid (HB7.out.trans (hb9.mono hB7))
        have HSS := Lib.hid (⟨hp, hpw, fun x hx => keys_has HP.out.2.1.dm (hp.mem_iff.1 hx)⟩ : _ ∧ _ ∧ ∀ x ∈ ss, has (stD s l) (.string x) = true ∧ x.length ≤ maxLen)
        obtain ⟨N, hN⟩ : ∃ q, ss.length = q := ⟨_, rfl⟩
        have hNn : N ≤ 1000000 := by
          rw [← hN, hp.length_eq]
          have h1 := HP.out.2.1.dm.size_le
          have h2 := Hn2.out
          obtain ⟨es, he, _⟩ := HDD.out.2
          rw [he] at h1 ⊢
          show (es.map fun p => strOf p.1).length ≤ _
          rw [List.length_map]
          have : es.length ≤ n2 := h1
          omega
        have HNl := Lib.hid hN
        rw [hN] at HN0 hn9 hA9 ⊢
        clear hDN hp hpw ho hb9 hN HA7 HB7 HP
        go_wp2_with fail
        go_loopw [8, 61] (fun _ i wr => ∃ q : Nat, i = .int .i64 (q : Nat) ∧ q ≤ N ∧ ∃ (mm : Mem) (F : List Fl) (nx : Nat), DN (.slice A9 N c9) (ss.map encStr) wr B p mm { s with D2 := stD s l, F := F } ∧ (ss.take q).foldl (stepF l (stD s l)) (s.F, 1) = (F, nx) ∧ ScA wr B cb sb A n cl l nx ∧ mm.n2 = n2 ∧ Below B w wr ∧ Refs F (stD s l) ∧ (∀ f ∈ F, f.bs.length ≤ 16777216 ∧ f.dur ≤ f.bs.length) ∧ nx ≤ 1 + 2 * q) (fun _ i _ => N - (intOf i).toNat)
        case atStart => exact ⟨0, rfl, Nat.zero_le _, _, s.F, 1, HN0.out, rfl, HA9.out, rfl, HB9.out, HDD.out.1, HL.out.fl, Nat.le_refl _⟩
        case round =>
          obtain ⟨q, rfl, hq, mm, F, nx, hM, hst, hA, hmn, hB, hr, hf, hnx⟩ := hrel
          by_cases hlt : q < N
          · have i5 : (q : Int) < (N : Int) := by omega
            have i6 : q < c9 := by omega
            have i7 : IntKind.i64.wrap ((q : Int) + 1) = (q : Int) + 1 := IntWalk.i64_in _ (by omega)
            obtain ⟨x, hx⟩ : ∃ x, ss[q]? = some x := ⟨_, List.getElem?_eq_getElem (by have := HNl.out; omega)⟩
            obtain ⟨A', c', e1, _, _, _, hcell⟩ := own_row hM.str
            obtain ⟨g, e2, _, _, hz⟩ := hcell q (encStr x) (by rw [List.getElem?_map, hx]; rfl)
            have e3 : A9 = some ⟨g, 0, none⟩ := by rw [e2] at e1; injection e1
            subst e3
            obtain ⟨hxh, hxl⟩ := HSS.out.2.2 x (List.mem_of_getElem? hx)
            obtain ⟨f, hfm, hfe⟩ := hr _ hxh
            obtain ⟨v, ps, hrun, hv⟩ := hM.con.dm.lookup lawS Try.underlying68 (zeroP _) (zd := zD) (zp := []) rfl (keyS ⟨x.toArray⟩ hxl)
            have hke : kS ⟨x.toArray⟩ = .string x := by unfold kS; simp
            rw [hke, hfe] at hv
            have hve := ptrE_inv hv
            subst hve
            have c1 : wr.cell? ⟨p, 1, none⟩ = some (.map (some mm.md)) := (Cells.of_row hM.obj).at_ 1
            have HO := Lib.hid (fail_any hM hfm (hf f hfm) hA (by omega))
            have HX := Lib.hid (⟨hx, hfe, hst, hr, hf, hM.con.nod, hmn, hnx, hfm⟩ : ss[q]? = some x ∧ (stD s l).atKey (.string x) zD = pD f.b ∧ (ss.take q).foldl (stepF l (stD s l)) (s.F, 1) = (F, nx) ∧ Refs F (stD s l) ∧ (∀ f ∈ F, f.bs.length ≤ 16777216 ∧ f.dur ≤ f.bs.length) ∧ (F.Pairwise fun f g => f.b ≠ g.b) ∧ mm.n2 = n2 ∧ nx ≤ 1 + 2 * q ∧ f ∈ F)
            have HB := Lib.hid hB
            clear hM hst hA hmn hB hr hf hnx hx hcell e1 e2 hxh hxl hfm hfe hke hv hlt HN0 HA9 HB9
            go_wp2_with fail
            refine HO.out.mono ?_
            rintro e w5 ⟨⟨v, rfl⟩, ⟨m', hD5, _, hm2, _, _⟩, hA5, hb5⟩
            have hX := HX.out
            have H5 := Lib.hid (show ∃ (mm : Mem) (F : List Fl) (nx : Nat), DN (.slice (some ⟨g, 0, none⟩) N c9) (ss.map encStr) w5 B p mm { s with D2 := stD s l, F := F } ∧ (ss.take (q + 1)).foldl (stepF l (stD s l)) (s.F, 1) = (F, nx) ∧ ScA w5 B cb sb A n cl l nx ∧ mm.n2 = n2 ∧ Below B w w5 ∧ Refs F (stD s l) ∧ (∀ f ∈ F, f.bs.length ≤ 16777216 ∧ f.dur ≤ f.bs.length) ∧ nx ≤ 1 + 2 * (q + 1) from
              ⟨m', _, _, hD5, by rw [List.take_add_one, hX.1, List.foldl_append, hX.2.2.1]; exact stepF_at hX.2.2.2.2.2.1 hX.2.2.2.2.2.2.2.2 hX.2.1, hA5, by rw [hm2]; exact hX.2.2.2.2.2.2.1, HB.out.trans hb5, hX.2.2.2.1.mono fun g hg => updF_in (k := f.b) (g := failF l nx) (fun _ => rfl) hg, fun g hg => by
                rcases updF_mem hg with ⟨h1, _⟩ | ⟨f0, h1, h2, rfl⟩
                · exact hX.2.2.2.2.1 g h1
                · have h3 := hX.2.2.2.2.1 f0 h1
                  have h4 := failF_ok l nx f0 h3.2
                  omega, by
                have := hX.2.2.2.2.2.2.2.1
                unfold failX
                split <;> omega⟩)
            clear hD5 hA5 hb5 hm2 hX HX HO HB
            go_wp2_with fail
            go_roundw
            case rel => exact ⟨q + 1, by go_num, by omega, H5.out⟩
            case measure => simp [intOf]; omega
          · have i5 : ¬ (q : Int) < (N : Int) := by omega
            have hqN : q = N := by omega
            subst hqN
            have hst2 : ss.foldl (stepF l (stD s l)) (s.F, 1) = (F, nx) := by rw [← hst, List.take_of_length_le (by have := HNl.out; omega)]
            have c1 : wr.cell? ⟨p, 1, none⟩ = some (.map (some mm.md)) := (Cells.of_row hM.obj).at_ 1
            have HO := Lib.hid (clone_map hM.con.dm)
            have HM := Lib.hid hM
            have HX := Lib.hid (⟨hst2, hr, hf, hmn⟩ : ss.foldl (stepF l (stD s l)) (s.F, 1) = (F, nx) ∧ Refs F (stD s l) ∧ (∀ f ∈ F, f.bs.length ≤ 16777216 ∧ f.dur ≤ f.bs.length) ∧ mm.n2 = n2)
            have HB := Lib.hid hB
            clear hM hst hst2 hA hmn hB hr hf hnx hlt HN0 HA9 HB9
            go_wp2_with fail
            refine HO.out.mono ?_
            rintro e w6 ⟨rfl, ho, hb6⟩
            have hM6 := HM.out.keep hb6
            have hmd := HM.out.con.dm.lt
            have hlt6 := row_lt HM.out.obj
            have hmb := HM.out.con.bd
            obtain ⟨m', hF, hm1, hm2⟩ := hM6.last (q := wr.heap.size) ho (by omega) (by omega)
            have C6 := Cells.of_row hM6.obj
            have y2 := C6.fz 2
            have y4 := C6.fz 4
            have y5 := C6.fz 5
            have y6 := C6.fz 6
            have z2 := C6.at_ 2
            have z4 := C6.at_ 4
            have z5 := C6.at_ 5
            have z6 := C6.at_ 6
            simp only [List.getElem?_cons_zero, List.getElem?_cons_succ] at z2 z4 z5 z6
            have hX := HX.out
            have hL : DL (stS s l ss) := by
              unfold stS
              rw [hX.1]
              exact { t1 := HDD.out.2, t2 := HDD.out.2, r1 := hX.2.1, r2 := hX.2.1, fl := hX.2.2.1, cl := HL.out.cl, ll := Nat.zero_le _, ok := trivial, run := rfl, onm := fun o ho => absurd ho (by simp), ro := fun a b hab => absurd hab (by simp) }
            have hS : stS s l ss = { s with D1 := stD s l, D2 := stD s l, ops := [], down := false, lim := false, left := 0, F := F } := by unfold stS; rw [hX.1]
            have hF' := hF
            change DM _ B p m' { s with D1 := stD s l, D2 := stD s l, ops := [], down := false, lim := false, left := 0, F := F } at hF'
            rw [← hS] at hF'
            have hw1 : m'.n1 ≤ c := by have := Hn2.out; omega
            have hw2 : m'.n2 ≤ c := by have := Hn2.out; omega
            have HZ := Lib.hid (Disk.of hF' hL hw1 hw2 (show m'.n2 + (stS s l ss).ops.length ≤ c from hw2))
            have HBZ := Lib.hid (((((HB.out.trans (hb6.mono (by omega))).setCell (p := ⟨p, 2, none⟩) hlow (.map (some wr.heap.size))).setCell (p := ⟨p, 4, none⟩) hlow (.bool false)).setCell (p := ⟨p, 5, none⟩) hlow (.bool false)).setCell (p := ⟨p, 6, none⟩) hlow (.int .i64 0))
            clear hM6 hS hF hF' hL ho hb6 hX HX HB HO HM hm1 hm2 C6 hw1 hw2 c1
            go_wp2_with fail
            go_end0
            exact ⟨⟨_, rfl⟩, ⟨ss, HSS.out.1, HSS.out.2.1, HZ.out⟩, HBZ.out⟩
end Go.Proofs.Ytbmogecnepgnaaa
