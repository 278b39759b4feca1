/- Liaisons: LiaisonConnects is true. -/
import Derived.Test.YtdpfoegcmngdfaaDoorKm
namespace Go.Proofs.YtdpfoegcmngdfaaDoor
open Go.RowKit
theorem pieces_cnt (L : Nat → Nat) : ∀ n s, (piecesM L n s).length ≤ n
  | 0, s => by simp [piecesM]
  | n + 1, s => by
    rw [piecesM]
    split
    · simp
    · rw [List.length_cons]; have := pieces_cnt L n (diff s (pieceM L s)); omega
theorem pU_ok (x : Nat) : OkL 6 (makeL 6 (pU x 15)) where
  low := fun e he => low_up (pU_low x 15) (by omega) e ((mem_make (pU_low x 15)).1 he)
  chk := made_check (k := 6) (pU_low x 15) (by omega)
  n12 := by omega
  li := firstE_none fun j hj => by
    have h1 := List.getElem?_eq_getElem hj
    have hm := (mem_make (pU_low x 15)).1 (List.getElem_mem hj)
    unfold lnkAt
    rw [h1]
    obtain ⟨q, hq⟩ : ∃ q, (makeL 6 (pU x 15))[j] = q := ⟨_, rfl⟩
    rw [hq] at hm ⊢
    obtain ⟨a, b⟩ := q
    obtain ⟨_, _, h2, h3⟩ := pU_mem hm
    show (if a = b then (17 : Int) else if (makeL 6 (pU x 15)).contains (b, a) then 0 else 10) = 0
    rw [if_neg h2, if_pos (List.contains_iff_mem.2 ((mem_make (pU_low x 15)).2 h3))]
theorem fin_set6 : ∀ s, s < 64 → s ≠ 0 → setE ((6 : Nat) : Int) (zs (bitsOf s)) = 0 := by decide +kernel
theorem bits_cnt (s : Nat) : (bitsOf s).length ≤ 64 := by have := (List.length_filter_le (fun i => s.testBit i) (List.range 64)); rwa [List.length_range] at this
def wN (L : Nat → Nat) (s i : Nat) : List Nat := (List.range i).filter fun v => (diff (stepM L s) s).testBit v
theorem wN_up (L : Nat → Nat) (s i : Nat) : wN L s (i + 1) = wN L s i ++ if (diff (stepM L s) s).testBit i then [i] else [] := by
  unfold wN
  rw [List.range_succ, List.filter_append, List.filter_cons]
  cases (diff (stepM L s) s).testBit i <;> rfl
theorem wN_cnt (L : Nat → Nat) (s i : Nat) : (wN L s i).length ≤ i := by
  unfold wN
  have := List.length_filter_le (fun v => (diff (stepM L s) s).testBit v) (List.range i)
  rwa [List.length_range] at this
theorem adj_six {es : List (Nat × Nat)} (h : Low 6 es) (a : Nat) : Under 6 (adj es a) := adj_under h a
theorem wN_end {L : Nat → Nat} {s : Nat} (hL : ∀ i, Under 6 (L i)) : wN L s 6 = bitsOf (diff (stepM L s) s) := by
  unfold wN
  have hlt : diff (stepM L s) s < 64 := under_lt (k := 6) fun v hv => by
    rw [diff_bit] at hv
    simp only [Bool.and_eq_true] at hv
    exact step_under hL s v hv.1
  rw [bits6_eq hlt]; rfl
theorem near_end {L : Nat → Nat} {s v : Nat} (_hs : s < 18446744073709551616) : (bitsOf s).any (fun a => (L a).testBit v) = (stepM L s).testBit v := by
  rw [Bool.eq_iff_iff, step_bit, List.any_eq_true]
  exact ⟨fun ⟨a, ha, hb⟩ => ⟨a, (mem_bitsOf.1 ha).1, (mem_bitsOf.1 ha).2, hb⟩, fun ⟨a, h1, h2, h3⟩ => ⟨a, mem_bitsOf.2 ⟨h1, h2⟩, h3⟩⟩
theorem any_up {l : List Nat} {k a : Nat} (f : Nat → Bool) (h : l[k]? = some a) : (l.take (k + 1)).any f = ((l.take k).any f || f a) := by
  rw [List.take_add_one, h, List.any_append]; simp
set_option maxRecDepth 100000 in
set_option maxHeartbeats 16000000 in
theorem connects_true (x t : Nat) (w : World) (hw : Good w) (hx : x < 65536) (ht : t < 256) :
    Calls Tryd.prog 4 #[.int .u16 (x : Nat), .int .u8 (t : Nat)] w fun e w' => e = .returned (.bool true) ∧ Below w.heap.size w w' := by
  obtain ⟨i0, hi, hz0, hz1, hz2⟩ := info_parts info_int
  have HCh := Lib.hid (chosen_any t w ht)
  have HKn := Lib.hid (fun w' (hb : Below w.heap.size w w') => known_any w' (hw.below hb hw.size))
  have HPr := Lib.hid (fun w' => pairs_any x w' hx)
  have Hgood := Lib.hid (fun w' (hb : Below w.heap.size w w') => hw.below hb hw.size)
  have hs64 : t % 64 < 64 := Nat.mod_lt _ (by omega)
  obtain ⟨s, hs⟩ : ∃ s, t % 64 = s := ⟨_, rfl⟩
  rw [hs] at HCh hs64
  have hok := pU_ok x
  have hmk : (makeL 6 (pU x 15)).length ≤ 36 := make_len
  have hlw : Low 6 (makeL 6 (pU x 15)) := fun e he => pU_low x 15 e ((mem_make (pU_low x 15)).1 he)
  obtain ⟨E, hE⟩ : ∃ E, makeL 6 (pU x 15) = E := ⟨_, rfl⟩
  rw [hE] at HPr hok hmk hlw
  clear hw ht hs hE
  go_enter Tryd.func4, Tryd.ntmps4
  go_wp2_with fail
  refine HCh.out.mono ?_
  rintro e w1 ⟨v, rfl, hown, hb1⟩
  obtain ⟨SA, lc, rfl, hrow⟩ := RowL.of_own hown
  have B1 := Lib.hid hb1
  have R1 := Lib.hid hrow
  clear hown hrow hb1
  go_wp2_with fail
  refine (HKn.out w1 B1.out).mono ?_
  rintro e w2 ⟨rfl, hb2⟩
  have B2 := Lib.hid (below_on B1.out hb2)
  have R2 := Lib.hid (R1.out.keep hb2)
  clear hb2
  by_cases h0 : s = 0
  · subst h0
    have hz : (bitsOf 0).length = 0 := by decide
    rw [hz]
    go_wp2_with fail
    refine (HKn.out w2 B2.out).mono ?_
    rintro e w3 ⟨rfl, hb3⟩
    have B3 := Lib.hid (below_on B2.out hb3)
    clear hb3
    go_wp2_with fail
    go_ret
    exact ⟨rfl, B3.out⟩
  have hset := fin_set6 s hs64 h0
  have hlp : 0 < (bitsOf s).length := by rw [bits_low h0 (by omega)]; simp
  have hl64 := bits_cnt s
  obtain ⟨z, hz⟩ : ∃ z, (bitsOf s).length = z := ⟨_, rfl⟩
  have Hz := Lib.hid hz
  rw [hz] at hlp hl64
  rw [hz]
  have tz : ((z : Int) == 0) = false := by rw [beq_eq_false_iff_ne]; omega
  clear hz
  go_wp2_with fail
  refine (HPr.out w2).mono ?_
  rintro e w3 ⟨B, d, rfl, hel, hb3⟩
  have B3 := Lib.hid (below_on B2.out hb3)
  have R3 := Lib.hid (R2.out.keep hb3)
  have E3 := Lib.hid hel
  clear hel hb3
  obtain ⟨m, hm⟩ : ∃ m, E.length = m := ⟨_, rfl⟩
  rw [hm] at E3 hmk
  rw [hm]
  have al := (Below.refl w3.heap.size w3).alloc (Nat.le_refl _) (.cells #[.int .i64 6, .slice B m d] 24)
  have C4 := Cells.new w3 #[.int .i64 6, .slice B m d] 24
  have E4 := E3.out.keep al
  have R4 := R3.out.keep al
  have K4 := below_on B3.out al
  obtain ⟨p, hp⟩ : ∃ p, w3.heap.size = p := ⟨_, rfl⟩
  obtain ⟨w4, hw4⟩ : ∃ u, w3.alloc (.cells #[.int .i64 6, .slice B m d] 24) = u := ⟨_, rfl⟩
  have Hw4 := Lib.hid hw4
  have Hp := Lib.hid hp
  rw [hw4, hp] at C4
  rw [hw4] at E4 R4 K4
  have HF := Lib.hid (fun w' (hb : Below w4.heap.size w4 w') => (⟨(C4.keep hb).at_ 0, (C4.keep hb).at_ 1, E4.keep hb, R4.keep hb, Hgood.out w' (below_on K4 hb), below_on K4 hb⟩ : w'.cell? ⟨p, 0, none⟩ = some (.int .i64 6) ∧ w'.cell? ⟨p, 1, none⟩ = some (.slice B m d) ∧ EL w' B m (cast E) ∧ RowL w' SA (bitsOf s) ∧ Good w' ∧ Below w.heap.size w w'))
  have HOK := Lib.hid hok
  have HSet := Lib.hid hset
  have HL6 := Lib.hid (adj_six hlw)
  have Hmk := Lib.hid hmk
  have Hs := Lib.hid hs64
  have H0 := Lib.hid h0
  clear al C4 E4 R4 K4 hw4 hp E3 R3 B3 R2 B2 R1 B1 hok hset hlw hmk hs64 h0 HCh HKn HPr Hgood hx
  have HC := Lib.hid (fun w' (hb : Below w4.heap.size w4 w') => connected_s (c := d) (d := lc) HOK.out (HF.out w' hb).2.2.1 (by have := Hmk.out; omega) (HF.out w' hb).2.2.2.1.nl.il HSet.out (by have := Hs.out; omega) (HF.out w' hb).2.2.2.2.1)
  have HP := Lib.hid (fun w' (hb : Below w4.heap.size w4 w') => pieces_s (c := d) (d := lc) HOK.out (HF.out w' hb).2.2.1 (by have := Hmk.out; omega) (HF.out w' hb).2.2.2.1.nl.il HSet.out (by have := Hs.out; omega) (HF.out w' hb).2.2.2.2.1)
  have HN := Lib.hid (fun w' (hb : Below w4.heap.size w4 w') => neighbours_s (c := d) (d := lc) HOK.out (HF.out w' hb).2.2.1 (by have := Hmk.out; omega) (HF.out w' hb).2.2.2.1.nl.il HSet.out (by have := Hs.out; omega) (HF.out w' hb).2.2.2.2.1)
  have HRC := Lib.hid (fun w' (hb : Below w4.heap.size w4 w') => rconnected_any 6 B m d E SA lc s w' (HF.out w' hb).2.2.1 (by have := Hmk.out; omega) (HF.out w' hb).2.2.2.1.nl.il H0.out (by have := Hs.out; omega))
  have HRP := Lib.hid (fun w' (hb : Below w4.heap.size w4 w') => rpieces_any 6 B m d E SA lc s w' (HF.out w' hb).2.2.1 (by have := Hmk.out; omega) (HF.out w' hb).2.2.2.1 (by have := Hs.out; omega))
  have HHas := Lib.hid (fun w' (hb : Below w4.heap.size w4 w') n => has_nat SA lc (bitsOf s) n w' (HF.out w' hb).2.2.2.1.nl.il (by have := bits_cnt s; omega))
  have HTo := Lib.hid (fun w' (hb : Below w4.heap.size w4 w') a b => touch_any 6 B m d E a b w' (HF.out w' hb).2.2.1 (by have := Hmk.out; omega))
  rw [Hz.out] at HC HP HN HRC HRP HHas
  obtain ⟨lb, lo, rfl, _⟩ : ∃ b o, SA = some ⟨b, o, none⟩ ∧ True := by
    have h1 := (HF.out w4 (Below.refl _ _)).2.2.2.1.nl.il
    have h2 : (zs (bitsOf s))[0]? = some ((Lib.ctz 64 s : Nat) : Int) := by rw [bits_low H0.out (by have := Hs.out; omega)]; rfl
    obtain ⟨b, o, e1, _⟩ := h1 0 _ h2
    exact ⟨b, o, e1, trivial⟩
  obtain ⟨q, hq⟩ : ∃ q, conM (adj E) s = q := ⟨_, rfl⟩
  rw [hq] at HC HRC
  obtain ⟨ls, hls⟩ : ∃ l, (pcsM (adj E) s).map bitsOf = l := ⟨_, rfl⟩
  have Hll := Lib.hid (show ls.length ≤ 1000000 ∧ ∀ l ∈ ls, l.length ≤ 1000000 by
    rw [← hls]
    refine ⟨?_, fun l hl => ?_⟩
    · rw [List.length_map]; have := pieces_cnt (adj E) s s; have := Hs.out; unfold pcsM; omega
    · obtain ⟨y, _, rfl⟩ := List.mem_map.1 hl
      have := bits_cnt y; omega)
  rw [hls] at HP HRP
  clear hq hls
  go_upto_region 5 with fail
  simp only [Hw4.out, Hp.out]
  have f0 := (HF.out w4 (Below.refl _ _)).1
  have f1 := (HF.out w4 (Below.refl _ _)).2.1
  have HCw := Lib.hid (HC.out w4 (Below.refl _ _))
  clear HC
  go_wp2_with fail
  refine HCw.out.mono ?_
  rintro e w5 ⟨rfl, hb5⟩
  have D5 := Lib.hid hb5
  clear hb5 HCw f0 f1
  have f0 := (HF.out w5 D5.out).1
  have f1 := (HF.out w5 D5.out).2.1
  have HPw := Lib.hid (HP.out w5 D5.out)
  clear HP
  go_wp2_with fail
  refine HPw.out.mono ?_
  rintro e w6 ⟨⟨PA, pc, rfl, hpl⟩, hb6⟩
  have D6 := Lib.hid (below_on D5.out hb6)
  have L6 := Lib.hid (show ∀ w', Below w6.heap.size w6 w' → LL 0 w' PA ls from fun w' hb => hpl.keep hb)
  clear hb6 hpl HPw f0 f1 D5
  have f0 := (HF.out w6 D6.out).1
  have f1 := (HF.out w6 D6.out).2.1
  have HNw := Lib.hid (HN.out w6 D6.out)
  clear HN
  obtain ⟨nl, hnl⟩ : ∃ l, bitsOf (diff (stepM (adj E) s) s) = l := ⟨_, rfl⟩
  have Hnl := Lib.hid hnl
  rw [hnl] at HNw
  clear hnl
  go_wp2_with fail
  refine HNw.out.mono ?_
  rintro e w7 ⟨⟨NA, nc, rfl, hni⟩, hb7⟩
  have D7 := Lib.hid (below_on D6.out hb7)
  have M7 := Lib.hid (fun w' (hb : Below w7.heap.size w7 w') => L6.out w' (below_on hb7 hb))
  have N7 := Lib.hid (fun w' (hb : Below w7.heap.size w7 w') => hni.keep hb)
  clear hb7 hni HNw f0 f1 D6 L6
  go_wp2_with fail
  go_loopw [13, 14] (fun v iv wr => ∃ i : Nat, iv = .int .i64 (i : Nat) ∧ i ≤ 6 ∧ wr.ownsRow w7.heap.size 3 1 v (wN (adj E) s i).length (nats (wN (adj E) s i)) ∧ Below w7.heap.size w7 wr) (fun _ iv _ => 6 - (intOf iv).toNat)
  case atStart => exact ⟨0, rfl, Nat.zero_le _, World.ownsRow_nil _ _ _ _, Below.refl _ _⟩
  case round =>
    obtain ⟨i, rfl, hi6, hown, hbo⟩ := hrel
    obtain ⟨wo, rfl⟩ : ∃ wo : World, wo = wr := ⟨_, rfl⟩
    have Oo := Lib.hid hown
    have Bo := Lib.hid hbo
    clear hown hbo
    by_cases hlt : i < 6
    · have ti : decide ((i : Int) < 6) = true := decide_eq_true (by omega)
      go_wp2_with fail
      go_loopw [15, 16] (fun nv kv wr => ∃ k : Nat, kv = .int .i64 (k : Nat) ∧ nv = .bool (((bitsOf s).take k).any fun a => (adj E a).testBit i) ∧ k ≤ z ∧ wr.ownsRow w7.heap.size 3 1 _ (wN (adj E) s i).length (nats (wN (adj E) s i)) ∧ Below w7.heap.size w7 wr) (fun _ kv _ => z - (intOf kv).toNat)
      case atStart => exact ⟨0, rfl, rfl, Nat.zero_le _, Oo.out, Bo.out⟩
      case round =>
        obtain ⟨k, rfl, rfl, hkz, hown, hbi⟩ := hrel
        obtain ⟨wi, rfl⟩ : ∃ wi : World, wi = wr := ⟨_, rfl⟩
        have Oi := Lib.hid hown
        have Bi := Lib.hid hbi
        clear hown hbi
        by_cases hlk : k < z
        · have Dw := below_on D7.out Bi.out
          obtain ⟨a, lb', lo', ha, hse, hlb, hca⟩ := (HF.out wi Dw).2.2.2.1.nl.il.at_ (k := k) (by rw [zs_len, Hz.out]; exact hlk)
          injection hse with hse
          injection hse with hse1 hse2
          subst hse1 hse2
          obtain ⟨a, rfl, ha2⟩ : ∃ n : Nat, a = n ∧ (bitsOf s)[k]? = some n := by
            unfold zs at ha
            rw [List.getElem?_map] at ha
            obtain ⟨n, hn, rfl⟩ := Option.map_eq_some_iff.1 ha
            exact ⟨n, rfl, hn⟩
          have hup := any_up (fun a => (adj E a).testBit i) ha2
          have Htz := Lib.hid (show decide ((k : Int) < (z : Int)) = true from decide_eq_true (by omega))
          have HT := fun w' (hb : Below wi.heap.size wi w') => HTo.out w' (below_on Dw hb) a i
          have Hp0 := (HF.out wi Dw).1
          have Hp1 := (HF.out wi Dw).2.1
          have hpl : p < wi.heap.size := World.block_lt_of_cell? _ _ Hp0
          obtain ⟨N, hN⟩ : ∃ N, ((bitsOf s).take k).any (fun a => (adj E a).testBit i) = N := ⟨_, rfl⟩
          obtain ⟨q2, hq2⟩ : ∃ N, (adj E a).testBit i = N := ⟨_, rfl⟩
          simp only [hq2] at HT
          rw [hN, hq2] at hup
          rw [hN]
          have Hup := Lib.hid hup
          have HT := Lib.hid HT
          have ik : (k : Int) < (z : Int) := by omega
          have HS := Lib.hid (fun w' (hb : Below wi.heap.size wi w') => (⟨(hb.cell (p := ⟨p, 0, none⟩) hpl).trans Hp0, (hb.cell (p := ⟨p, 1, none⟩) hpl).trans Hp1, (hb.cell (p := ⟨lb, lo + k, none⟩) hlb).trans hca⟩ : w'.cell? ⟨p, 0, none⟩ = some (.int .i64 6) ∧ w'.cell? ⟨p, 1, none⟩ = some (.slice B m d) ∧ w'.cell? ⟨lb, lo + k, none⟩ = some (.int .i64 (a : Nat))))
          clear hup hN hq2 ha ha2 Hp0 Hp1 hpl hlb hca Dw
          cases N
          · cases q2
            · go_upto_region 16 with fail
              refine Till.begin 10 (fun w' => w'.cell? ⟨p, 0, none⟩ = some (.int .i64 6) ∧ w'.cell? ⟨p, 1, none⟩ = some (.slice B m d) ∧ w'.cell? ⟨lb, lo + k, none⟩ = some (.int .i64 (a : Nat))) (by kernel_rfl) (HS.out _ (Below.refl _ _).drew) (fun hH => ?_)
              clear hH
              have HB := Lib.hid (Below.refl wi.heap.size wi).drew
              generalize wi.drew = v0 at HB ⊢
              try simp only [List.setIfInBounds_toArray, List.set_cons_zero, List.set_cons_succ]
              refine Till.one (i := 0) (by kernel_rfl) rfl (fun K hK => ?_)
              go_simp
              refine hK.out _ _ (fun _ => HS.out _ HB.out) ?_
              clear hK K
              try simp only [List.setIfInBounds_toArray, List.set_cons_zero, List.set_cons_succ]
              refine Till.one (i := 1) (by kernel_rfl) rfl (fun K hK => ?_)
              go_simp
              refine hK.out _ _ (fun _ => HS.out _ HB.out) ?_
              clear hK K
              try simp only [List.setIfInBounds_toArray, List.set_cons_zero, List.set_cons_succ]
              refine Till.tk 2 8 59 (gV 6 B m d) (HS.out _ HB.out) ?_
              try simp only [Act.put, List.setIfInBounds_toArray, List.set_cons_zero, List.set_cons_succ]
              refine Till.tk 3 5 60 (.slice (some ⟨lb, lo, none⟩) z lc) (HS.out _ HB.out) ?_
              try simp only [Act.put, List.setIfInBounds_toArray, List.set_cons_zero, List.set_cons_succ]
              refine Till.tk 4 5 61 (.int .i64 (k : Nat)) (HS.out _ HB.out) ?_
              try simp only [Act.put, List.setIfInBounds_toArray, List.set_cons_zero, List.set_cons_succ]
              refine Till.tk 5 6 62 (.pointer (some ⟨lb, lo + k, none⟩)) (HS.out _ HB.out) ?_
              try simp only [Act.put, List.setIfInBounds_toArray, List.set_cons_zero, List.set_cons_succ]
              refine Till.tk 6 8 63 (.int .i64 (a : Nat)) (HS.out _ HB.out) ?_
              try simp only [Act.put, List.setIfInBounds_toArray, List.set_cons_zero, List.set_cons_succ]
              refine Till.one (i := 7) (by kernel_rfl) rfl (fun K hK => ?_)
              go_simp
              refine hK.out _ _ (fun _ => HS.out _ HB.out) ?_
              clear hK K
              try simp only [List.setIfInBounds_toArray, List.set_cons_zero, List.set_cons_succ]
              refine Till.one (i := 8) (by kernel_rfl) rfl (fun K hK => ?_)
              go_simp
              refine (HT.out _ HB.out).mono ?_
              rintro e v1 ⟨rfl, g⟩
              replace HB := Lib.hid (below_on HB.out g)
              clear g
              go_wp2_with fail
              refine hK.out _ _ (fun _ => HS.out _ HB.out) ?_
              clear hK K
              try simp only [List.setIfInBounds_toArray, List.set_cons_zero, List.set_cons_succ]
              refine Till.one (i := 9) (by kernel_rfl) rfl (fun K hK => ?_)
              go_simp
              refine hK.out _ _ (fun _ => HS.out _ HB.out) ?_
              clear hK K
              try simp only [List.setIfInBounds_toArray, List.set_cons_zero, List.set_cons_succ]
              refine Till.one (i := 10) (by kernel_rfl) rfl (fun K hK => ?_)
              go_simp
              refine hK.out _ _ (fun h => absurd h (by simp)) ?_
              clear hK K
              try simp only [List.setIfInBounds_toArray, List.set_cons_zero, List.set_cons_succ]
              refine Till.done (by kernel_rfl) ?_ _
              have B9 := Lib.hid (below_on Bi.out HB.out)
              have O9 := Lib.hid (own_below Oi.out HB.out)
              go_wp2_with fail
              go_roundw
              case rel => exact ⟨k + 1, by go_num, by rw [Hup.out]; rfl, by omega, O9.out, B9.out⟩
              case measure => simp [intOf]; omega

            · go_upto_region 16 with fail
              refine Till.begin 10 (fun w' => w'.cell? ⟨p, 0, none⟩ = some (.int .i64 6) ∧ w'.cell? ⟨p, 1, none⟩ = some (.slice B m d) ∧ w'.cell? ⟨lb, lo + k, none⟩ = some (.int .i64 (a : Nat))) (by kernel_rfl) (HS.out _ (Below.refl _ _).drew) (fun hH => ?_)
              clear hH
              have HB := Lib.hid (Below.refl wi.heap.size wi).drew
              generalize wi.drew = v0 at HB ⊢
              try simp only [List.setIfInBounds_toArray, List.set_cons_zero, List.set_cons_succ]
              refine Till.one (i := 0) (by kernel_rfl) rfl (fun K hK => ?_)
              go_simp
              refine hK.out _ _ (fun _ => HS.out _ HB.out) ?_
              clear hK K
              try simp only [List.setIfInBounds_toArray, List.set_cons_zero, List.set_cons_succ]
              refine Till.one (i := 1) (by kernel_rfl) rfl (fun K hK => ?_)
              go_simp
              refine hK.out _ _ (fun _ => HS.out _ HB.out) ?_
              clear hK K
              try simp only [List.setIfInBounds_toArray, List.set_cons_zero, List.set_cons_succ]
              refine Till.tk 2 8 59 (gV 6 B m d) (HS.out _ HB.out) ?_
              try simp only [Act.put, List.setIfInBounds_toArray, List.set_cons_zero, List.set_cons_succ]
              refine Till.tk 3 5 60 (.slice (some ⟨lb, lo, none⟩) z lc) (HS.out _ HB.out) ?_
              try simp only [Act.put, List.setIfInBounds_toArray, List.set_cons_zero, List.set_cons_succ]
              refine Till.tk 4 5 61 (.int .i64 (k : Nat)) (HS.out _ HB.out) ?_
              try simp only [Act.put, List.setIfInBounds_toArray, List.set_cons_zero, List.set_cons_succ]
              refine Till.tk 5 6 62 (.pointer (some ⟨lb, lo + k, none⟩)) (HS.out _ HB.out) ?_
              try simp only [Act.put, List.setIfInBounds_toArray, List.set_cons_zero, List.set_cons_succ]
              refine Till.tk 6 8 63 (.int .i64 (a : Nat)) (HS.out _ HB.out) ?_
              try simp only [Act.put, List.setIfInBounds_toArray, List.set_cons_zero, List.set_cons_succ]
              refine Till.one (i := 7) (by kernel_rfl) rfl (fun K hK => ?_)
              go_simp
              refine hK.out _ _ (fun _ => HS.out _ HB.out) ?_
              clear hK K
              try simp only [List.setIfInBounds_toArray, List.set_cons_zero, List.set_cons_succ]
              refine Till.one (i := 8) (by kernel_rfl) rfl (fun K hK => ?_)
              go_simp
              refine (HT.out _ HB.out).mono ?_
              rintro e v1 ⟨rfl, g⟩
              replace HB := Lib.hid (below_on HB.out g)
              clear g
              go_wp2_with fail
              refine hK.out _ _ (fun _ => HS.out _ HB.out) ?_
              clear hK K
              try simp only [List.setIfInBounds_toArray, List.set_cons_zero, List.set_cons_succ]
              refine Till.one (i := 9) (by kernel_rfl) rfl (fun K hK => ?_)
              go_simp
              refine hK.out _ _ (fun _ => HS.out _ HB.out) ?_
              clear hK K
              try simp only [List.setIfInBounds_toArray, List.set_cons_zero, List.set_cons_succ]
              refine Till.one (i := 10) (by kernel_rfl) rfl (fun K hK => ?_)
              go_simp
              refine hK.out _ _ (fun h => absurd h (by simp)) ?_
              clear hK K
              try simp only [List.setIfInBounds_toArray, List.set_cons_zero, List.set_cons_succ]
              refine Till.done (by kernel_rfl) ?_ _
              have B9 := Lib.hid (below_on Bi.out HB.out)
              have O9 := Lib.hid (own_below Oi.out HB.out)
              go_wp2_with fail
              go_roundw
              case rel => exact ⟨k + 1, by go_num, by rw [Hup.out]; rfl, by omega, O9.out, B9.out⟩
              case measure => simp [intOf]; omega

          · go_upto_region 16 with fail
            refine Till.begin 10 (fun w' => w'.cell? ⟨p, 0, none⟩ = some (.int .i64 6) ∧ w'.cell? ⟨p, 1, none⟩ = some (.slice B m d) ∧ w'.cell? ⟨lb, lo + k, none⟩ = some (.int .i64 (a : Nat))) (by kernel_rfl) (HS.out _ (Below.refl _ _).drew) (fun hH => ?_)
            clear hH
            have HB := Lib.hid (Below.refl wi.heap.size wi).drew
            generalize wi.drew = v0 at HB ⊢
            try simp only [List.setIfInBounds_toArray, List.set_cons_zero, List.set_cons_succ]
            refine Till.one (i := 0) (by kernel_rfl) rfl (fun K hK => ?_)
            go_simp
            refine hK.out _ _ (fun _ => HS.out _ HB.out) ?_
            clear hK K
            try simp only [List.setIfInBounds_toArray, List.set_cons_zero, List.set_cons_succ]
            refine Till.one (i := 1) (by kernel_rfl) rfl (fun K hK => ?_)
            go_simp
            refine hK.out _ _ (fun _ => HS.out _ HB.out) ?_
            clear hK K
            try simp only [List.setIfInBounds_toArray, List.set_cons_zero, List.set_cons_succ]
            refine Till.sk 2 8 59 (HS.out _ HB.out) ?_
            try simp only [Act.put, List.setIfInBounds_toArray, List.set_cons_zero, List.set_cons_succ]
            refine Till.sk 3 5 60 (HS.out _ HB.out) ?_
            try simp only [Act.put, List.setIfInBounds_toArray, List.set_cons_zero, List.set_cons_succ]
            refine Till.sk 4 5 61 (HS.out _ HB.out) ?_
            try simp only [Act.put, List.setIfInBounds_toArray, List.set_cons_zero, List.set_cons_succ]
            refine Till.sk 5 6 62 (HS.out _ HB.out) ?_
            try simp only [Act.put, List.setIfInBounds_toArray, List.set_cons_zero, List.set_cons_succ]
            refine Till.sk 6 8 63 (HS.out _ HB.out) ?_
            try simp only [Act.put, List.setIfInBounds_toArray, List.set_cons_zero, List.set_cons_succ]
            refine Till.one (i := 7) (by kernel_rfl) rfl (fun K hK => ?_)
            go_simp
            refine hK.out _ _ (fun _ => HS.out _ HB.out) ?_
            clear hK K
            try simp only [List.setIfInBounds_toArray, List.set_cons_zero, List.set_cons_succ]
            refine Till.one (i := 8) (by kernel_rfl) rfl (fun K hK => ?_)
            go_simp
            refine hK.out _ _ (fun _ => HS.out _ HB.out) ?_
            clear hK K
            try simp only [List.setIfInBounds_toArray, List.set_cons_zero, List.set_cons_succ]
            refine Till.one (i := 9) (by kernel_rfl) rfl (fun K hK => ?_)
            go_simp
            refine hK.out _ _ (fun _ => HS.out _ HB.out) ?_
            clear hK K
            try simp only [List.setIfInBounds_toArray, List.set_cons_zero, List.set_cons_succ]
            refine Till.one (i := 10) (by kernel_rfl) rfl (fun K hK => ?_)
            go_simp
            refine hK.out _ _ (fun h => absurd h (by simp)) ?_
            clear hK K
            try simp only [List.setIfInBounds_toArray, List.set_cons_zero, List.set_cons_succ]
            refine Till.done (by kernel_rfl) ?_ _
            have B9 := Lib.hid (below_on Bi.out HB.out)
            have O9 := Lib.hid (own_below Oi.out HB.out)
            go_wp2_with fail
            go_roundw
            case rel => exact ⟨k + 1, by go_num, by rw [Hup.out]; rfl, by omega, O9.out, B9.out⟩
            case measure => simp [intOf]; omega

        · have hn : ((bitsOf s).take k).any (fun a => (adj E a).testBit i) = (stepM (adj E) s).testBit i := by
            rw [List.take_of_length_le (by rw [Hz.out]; omega), near_end (by have := Hs.out; omega)]
          rw [hn]
          clear hn
          have hup := wN_up (adj E) s i
          have hcn := wN_cnt (adj E) s i
          have HHw := HHas.out wi (below_on D7.out Bi.out) i
          rw [bits_con (by omega)] at HHw
          have tk : decide ((k : Int) < (z : Int)) = false := decide_eq_false (by omega)
          obtain ⟨N, hN⟩ : ∃ N, (stepM (adj E) s).testBit i = N := ⟨_, rfl⟩
          obtain ⟨q2, hq2⟩ : ∃ N, s.testBit i = N := ⟨_, rfl⟩
          rw [diff_bit, hN, hq2] at hup
          rw [hN]
          rw [hq2] at HHw
          have Hup := Lib.hid hup
          have Hcn := Lib.hid hcn
          have HHw := Lib.hid HHw
          have Hlt := Lib.hid hlt
          have hzz := Bi.out.size
          clear hup hcn hN hq2
          cases N
          · have O9 := Lib.hid (show wi.ownsRow w7.heap.size 3 1 _ (wN (adj E) s (i + 1)).length (nats (wN (adj E) s (i + 1))) by
              rw [Hup.out, if_neg (by simp), List.append_nil]; exact Oi.out)
            go_wp2_with fail
            go_roundw
            case rel => exact ⟨i + 1, by go_num, by omega, O9.out, Bi.out⟩
            case measure => simp [intOf]; omega
          · cases q2
            · go_wp2_with fail
              refine HHw.out.mono ?_
              rintro e w9 ⟨rfl, rfl⟩
              go_wp2_with (at_builtin; refine wpList_append_own _ rfl _ _ 25 rfl w7.heap.size 3 i0 (.int .i64 0) 1 8 Tryd.underlying25 hi hz0 hz1 hz2 rfl (by decide) _ _ _ rfl (Oi.out.alloc _) ⟨wi.heap.size, 0, none⟩ 1 1 [.int .i64 (i : Nat)] rfl rfl ?c1 ?c2 ?c3 ?c4 ?c5 ?_)
              case c1 =>
                intro k u hu
                match k, hu with
                | 0, hu => simp at hu; subst hu; simp [Addr.add]
              case c2 => intro u hu; simp at hu; subst hu; rfl
              case c3 => unfold maxLen; have := Hcn.out; omega
              case c4 => have := Hcn.out; omega
              case c5 => simp; omega
              intro v' w9 hown' hgrow _
              have B9 := Lib.hid ((Bi.out.alloc hzz (.cells #[.int .i64 (i : Nat)] 3)).grown hgrow (by simp; omega) (fun k hk => own_ge Oi.out hk))
              have O9 := Lib.hid (show w9.ownsRow w7.heap.size 3 1 v' (wN (adj E) s (i + 1)).length (nats (wN (adj E) s (i + 1))) by
                rw [Hup.out, if_pos (by rfl), List.length_append, nats_snoc]; exact hown')
              clear hown' hgrow
              go_wp2_with fail
              go_roundw
              case rel => exact ⟨i + 1, by go_num, by have := Hlt.out; omega, O9.out, B9.out⟩
              case measure => simp [intOf]; have := Hlt.out; omega
            · have O9 := Lib.hid (show wi.ownsRow w7.heap.size 3 1 _ (wN (adj E) s (i + 1)).length (nats (wN (adj E) s (i + 1))) by
                rw [Hup.out, if_neg (by simp), List.append_nil]; exact Oi.out)
              go_wp2_with fail
              refine HHw.out.mono ?_
              rintro e w9 ⟨rfl, rfl⟩
              go_wp2_with fail
              go_roundw
              case rel => exact ⟨i + 1, by go_num, by omega, O9.out, Bi.out⟩
              case measure => simp [intOf]; omega

    · have hi66 : i = 6 := by omega
      subst hi66
      obtain ⟨WA, wc, rfl, hwn⟩ := own_at Oo.out
      rw [wN_end HL6.out, Hnl.out] at hwn ⊢
      have hwi := hwn.il
      have Dw := below_on D7.out Bo.out
      have HRCw := Lib.hid (HRC.out wo Dw)
      have f0 := (HF.out wo Dw).1
      have f1 := (HF.out wo Dw).2.1
      have Wl := Lib.hid (fun w' (hb : Below wo.heap.size wo w') => hwi.keep hb)
      clear hwn hwi
      go_wp2_with fail
      refine HRCw.out.mono ?_
      rintro e w8 ⟨rfl, hb8⟩
      have B8 := Lib.hid hb8
      have Dw8 := below_on Dw hb8
      have HRPw := Lib.hid (HRP.out w8 Dw8)
      clear hb8 f0 f1 HRCw
      have f0 := (HF.out w8 Dw8).1
      have f1 := (HF.out w8 Dw8).2.1
      go_wp2_with fail
      refine HRPw.out.mono ?_
      rintro e w9 ⟨v9, rfl, hout, hb9⟩
      obtain ⟨QA, qc, rfl, hll⟩ := hout.ll
      have B9 := Lib.hid (below_on B8.out hb9)
      have K9 := Lib.hid (below_on (HF.out w8 Dw8).2.2.2.2.2 hb9)
      have hSL := sameLists_any 0 0 PA QA pc qc ls ls w9 (M7.out w9 (below_on Bo.out B9.out)) hll Hll.out.1 Hll.out.1 Hll.out.2 Hll.out.2
      rw [beq_self_eq_true] at hSL
      have hSL := Lib.hid hSL
      clear hout hll hb9 f0 f1 HRPw Dw8
      go_wp2_with fail
      refine hSL.out.mono ?_
      rintro e w10 ⟨rfl, hb10⟩
      have B10 := Lib.hid (below_on B9.out hb10)
      have K10 := Lib.hid (below_on K9.out hb10)
      have hnc : nl.length ≤ 1000000 := by rw [← Hnl.out]; have := bits_cnt (diff (stepM (adj E) s) s); omega
      have hSM := same_any NA WA nc wc (zs nl) (zs nl) w10 (N7.out w10 (below_on Bo.out B10.out)) (Wl.out w10 B10.out) (by rw [zs_len]; exact hnc) (by rw [zs_len]; exact hnc)
      rw [beq_self_eq_true, zs_len] at hSM
      have hSM := Lib.hid hSM
      clear hb10 hSL hnc
      go_wp2_with fail
      refine hSM.out.mono ?_
      rintro e w11 ⟨rfl, hb11⟩
      have K11 := Lib.hid (below_on K10.out hb11)
      clear hb11
      go_wp2_with fail
      go_ret
      exact ⟨rfl, K11.out⟩
end Go.Proofs.YtdpfoegcmngdfaaDoor
