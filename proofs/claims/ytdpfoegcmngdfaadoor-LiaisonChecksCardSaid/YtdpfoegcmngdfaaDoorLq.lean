/- Liaisons: the reference's pieces. -/
import Derived.Test.YtdpfoegcmngdfaaDoorLp
import Derived.Test.YtdpfoegcmngdfaaDoorLt
namespace Go.Proofs.YtdpfoegcmngdfaaDoor
open Go.RowKit
theorem own_one (w : World) (C x : Nat) (hC : C ≤ w.heap.size) : (w.alloc (.cells #[.int .i64 (x : Nat)] 3)).ownsRow C 3 1 (.slice (some ⟨w.heap.size, 0, none⟩) 1 1) [x].length (nats [x]) :=
  ⟨rfl, .inr ⟨w.heap.size, 1, #[.int .i64 (x : Nat)], rfl, hC, heap_new w _, Nat.le_refl _, by unfold maxLen; omega, rfl, rfl⟩⟩
theorem own_at {w : World} {C : Nat} {v : Value} {l : List Nat} (h : w.ownsRow C 3 1 v l.length (nats l)) : ∃ A c, v = .slice A l.length c ∧ NL C w A l := by
  obtain ⟨A, c, e, hn, _⟩ := own_nats h
  exact ⟨A, c, e, hn⟩
theorem fil_up {l I : List Nat} {k v : Nat} (h : l[k]? = some v) : ((l.take (k + 1)).filter fun v => I.contains v) = if I.contains v then ((l.take k).filter fun v => I.contains v) ++ [v] else (l.take k).filter fun v => I.contains v := by
  rw [List.take_add_one, h, List.filter_append]
  cases e : I.contains v <;> simp_all
theorem fil_len (l I : List Nat) (k : Nat) : ((l.take k).filter fun v => I.contains v).length ≤ k := Nat.le_trans (List.length_filter_le _ _) (by simp; omega)
set_option maxRecDepth 100000 in
set_option maxHeartbeats 8000000 in
theorem rpiece_any (n : Int) (A : Option Addr) (m c : Nat) (es : List (Nat × Nat)) (B : Option Addr) (d s : Nat) (w : World) (h : EL w A m (cast es)) (hm : m ≤ 4096) (hl : IL w B (zs (bitsOf s))) (h0 : s ≠ 0) (hs : s < 18446744073709551616) :
    Calls Tryd.prog 53 #[gV n A m c, .slice B (bitsOf s).length d] w fun e w' => ∃ v, e = .returned v ∧ w'.ownsRow w.heap.size 3 1 v (bitsOf (pieceM (adj es) s)).length (nats (bitsOf (pieceM (adj es) s))) ∧ Below w.heap.size w w' := by
  obtain ⟨i0, hi, hz0, hz1, hz2⟩ := info_parts info_int
  have kv := (Below.refl w.heap.size w).alloc (Nat.le_refl _) (.cells #[.int .i64 n, .slice A m c] 24)
  have P0 := Cells.new w #[.int .i64 n, .slice A m c] 24
  have HT := Lib.hid (fun w' (hb : Below w.heap.size w w') x y => touch_any n A m c es x y w' (h.keep hb) hm)
  have HI := Lib.hid (fun w' (hb : Below w.heap.size w w') => hl.keep hb)
  have ST := Lib.hid (PIn.start (L := adj es) h0)
  have LE := Lib.hid (fun I i k (h : PIn (adj es) s I i k) => h.len hs)
  have LT := Lib.hid (fun I i k (h : PIn (adj es) s I i k) => h.lt)
  have YE := Lib.hid (fun I i k a v (h : PIn (adj es) s I i k) h1 h2 h3 h4 => PIn.yes (a := a) (v := v) h hs h1 h2 h3 h4)
  have NO := Lib.hid (fun I i k a v (h : PIn (adj es) s I i k) h1 h2 h3 => PIn.no (a := a) (v := v) h h1 h2 h3)
  have NX := Lib.hid (fun I i k (h : PIn (adj es) s I i k) h1 h2 => PIn.next h h1 h2)
  have DN := Lib.hid (fun I i k (h : PIn (adj es) s I i k) h1 v => PIn.done h hs h0 h1 v)
  have BF := Lib.hid (bits_filter s (pieceM (adj es) s))
  have AP := Lib.hid (and_piece (L := adj es) hs)
  have h64 := bitsOf_len s
  have hh := bits_low h0 hs
  have hp1 : 0 < (bitsOf s).length := by rw [hh]; simp
  have hh0 : (bitsOf s)[0]? = some (Lib.ctz 64 s) := by rw [hh]; rfl
  obtain ⟨x0, b0, o0, hx0, rfl, hb0, hc0⟩ := hl.at_ (k := 0) (by rw [zs_len]; exact hp1)
  obtain ⟨v0', hv0, rfl⟩ := zs_at hx0
  rw [hh0] at hv0
  injection hv0 with hv0
  rw [← hv0] at hc0
  rw [Nat.add_zero] at hc0
  have hc0 := (kv.cell (p := ⟨b0, o0, none⟩) hb0).trans hc0
  clear hh hx0 hb0 hh0 hv0 v0'
  obtain ⟨l, hll⟩ : ∃ l, bitsOf s = l := ⟨_, rfl⟩
  rw [hll] at HI LE YE NO NX BF h64 hp1 ⊢
  obtain ⟨ct, hct⟩ : ∃ ct, Lib.ctz 64 s = ct := ⟨_, rfl⟩
  rw [hct] at ST hc0
  have hpos : (0 : Int) < (l.length : Int) := by omega
  have K0 := Lib.hid kv
  have P0 := Lib.hid P0
  have hw1s : (w.alloc (.cells #[.int .i64 n, .slice A m c] 24)).heap.size = w.heap.size + 1 := by simp
  obtain ⟨w1, hw1⟩ : ∃ u, w.alloc (.cells #[.int .i64 n, .slice A m c] 24) = u := ⟨_, rfl⟩
  rw [hw1] at K0 P0 hc0 hw1s
  have O1 := Lib.hid (own_one w1 (w.heap.size + 1) ct (by omega))
  have B1 := Lib.hid (K0.out.alloc K0.out.size (.cells #[.int .i64 (ct : Nat)] 3))
  have P1 := Lib.hid (P0.out.keep ((Below.refl w1.heap.size w1).alloc (Nat.le_refl _) (.cells #[.int .i64 (ct : Nat)] 3)))
  have zz1 := Lib.hid (show w.heap.size + 1 ≤ (w1.alloc (.cells #[.int .i64 (ct : Nat)] 3)).heap.size by simp; omega)
  clear h hl h0 hs kv hct hll
  go_enter Tryd.func53, Tryd.ntmps53
  go_wp2_with fail
  try simp only [hw1s] at O1 ⊢
  go_loopw [6, 5] (fun si sv wr => ∃ (i : Nat) (I : List Nat), si = .int .i64 (i : Nat) ∧ i ≤ 64 ∧ PIn (adj es) s I i 0 ∧ wr.ownsRow (w.heap.size + 1) 3 1 sv I.length (nats I) ∧ Cells wr w.heap.size [.int .i64 n, .slice A m c] ∧ w.heap.size + 1 ≤ wr.heap.size ∧ Below w.heap.size w wr) (fun si _ _ => 65 - (intOf si).toNat)
  case atStart => exact ⟨0, [ct], rfl, by omega, ST.out, O1.out, P1.out, zz1.out, B1.out⟩
  case round =>
    obtain ⟨i, I, rfl, hi64, hpi, how, hpc, hzz, hbb⟩ := hrel
    have Hpi := Lib.hid hpi
    have Ow0 := Lib.hid how
    have P4 := Lib.hid hpc
    have Z4 := Lib.hid hzz
    have B4 := Lib.hid hbb
    have hle := LE.out I i 0 hpi
    clear hpi how hpc hzz hbb
    obtain ⟨A4, ic4, rfl, _⟩ := own_at Ow0.out
    by_cases hlt : i < I.length
    · have HSt := Lib.hid (show (i : Nat) < I.length from hlt)
      go_wp2_with fail
      go_loopw [7, 5] (fun sk sv wr => ∃ (k : Nat) (I : List Nat), sk = .int .i64 (k : Nat) ∧ k ≤ l.length ∧ PIn (adj es) s I i k ∧ i < I.length ∧ wr.ownsRow (w.heap.size + 1) 3 1 sv I.length (nats I) ∧ Cells wr w.heap.size [.int .i64 n, .slice A m c] ∧ w.heap.size + 1 ≤ wr.heap.size ∧ Below w.heap.size w wr) (fun sk _ _ => l.length - (intOf sk).toNat)
      case atStart => exact ⟨0, I, rfl, Nat.zero_le _, Hpi.out, HSt.out, Ow0.out, P4.out, Z4.out, B4.out⟩
      case round =>
        obtain ⟨k, I, rfl, hk, hpi, hil, how, hpc, hzz, hbb⟩ := hrel
        clear Hpi Ow0 P4 Z4 B4
        obtain ⟨wm, rfl⟩ : ∃ wm : World, wm = wr := ⟨_, rfl⟩
        have Hpi := Lib.hid hpi
        have Ow0 := Lib.hid how
        have P6 := Lib.hid hpc
        have Z4 := Lib.hid hzz
        have B4 := Lib.hid hbb
        have Hil := Lib.hid hil
        have hlen := LE.out I i k hpi
        have Hln := Lib.hid (show I.length ≤ 64 by omega)
        obtain ⟨A5, ic, rfl, hnl⟩ := own_at how
        clear hpi how hpc hzz hbb hlt hle
        by_cases hlt : k < l.length
        · obtain ⟨a, ib, io, ha, rfl, _, hib, ci⟩ := hnl.at_ hil
          obtain ⟨x, sb, so, hx, e8, hsb, cs⟩ := (HI.out wm B4.out).at_ (k := k) (by rw [zs_len]; exact hlt)
          injection e8 with e8
          injection e8 with e81 e82
          subst e81 e82
          obtain ⟨v, hv, rfl⟩ := zs_at hx
          have Ha := Lib.hid ha
          have Hv := Lib.hid hv
          have HS := Lib.hid (fun w' (hb : Below wm.heap.size wm w') => (⟨(P6.out.keep hb).at_ 0, (P6.out.keep hb).at_ 1, (hb.cell (p := ⟨ib, io + i, none⟩) hib).trans ci, (hb.cell (p := ⟨b0, o0 + k, none⟩) hsb).trans cs⟩ : w'.cell? ⟨w.heap.size, 0, none⟩ = some (.int .i64 n) ∧ w'.cell? ⟨w.heap.size, 1, none⟩ = some (.slice A m c) ∧ w'.cell? ⟨ib, io + i, none⟩ = some (.int .i64 (a : Nat)) ∧ w'.cell? ⟨b0, o0 + k, none⟩ = some (.int .i64 (v : Nat))))
          have HT2 := fun w' (hb : Below wm.heap.size wm w') => HT.out w' (B4.out.trans (hb.mono B4.out.size)) a v
          have HH2 := fun w' (hb : Below wm.heap.size wm w') => (has_nat (some ⟨ib, io, none⟩) ic I v w' (hnl.il.keep hb) (by omega)).mono (fun e w2 (h : e = .returned (.bool (I.contains v)) ∧ w' = w2) => (show e = .returned (.bool (I.contains v)) ∧ Below w'.heap.size w' w2 from ⟨h.1, h.2 ▸ Below.refl _ _⟩))
          have YE2 := Lib.hid (fun h3 h4 => YE.out I i k a v Hpi.out ha hv h3 h4)
          have NO2 := Lib.hid (fun h3 => NO.out I i k a v Hpi.out ha hv h3)
          obtain ⟨q1, hq1⟩ : ∃ q, (adj es a).testBit v = q := ⟨_, rfl⟩
          obtain ⟨q2, hq2⟩ : ∃ q, I.contains v = q := ⟨_, rfl⟩
          rw [hq1] at HT2 YE2 NO2
          rw [hq2] at HH2 YE2 NO2
          have HT := Lib.hid HT2
          have HH := Lib.hid HH2
          have Hsb := Lib.hid hsb
          have Hib := Lib.hid hib
          clear ha hv hx hq1 hq2 hnl hib hsb ci cs HT2 HH2
          have i1 : (i : Int) < (I.length : Int) := by omega
          have i2 : (k : Int) < (l.length : Int) := by omega
          cases q1
          · have Hn := Lib.hid (NO2.out (fun h => by cases h))
            go_upto_region 8 with fail
            refine Till.begin 18 (fun w' => w'.cell? ⟨w.heap.size, 0, none⟩ = some (.int .i64 n) ∧ w'.cell? ⟨w.heap.size, 1, none⟩ = some (.slice A m c) ∧ w'.cell? ⟨ib, io + i, none⟩ = some (.int .i64 (a : Nat)) ∧ w'.cell? ⟨b0, o0 + k, none⟩ = some (.int .i64 (v : Nat))) (by kernel_rfl) (HS.out _ (Below.refl _ _).drew) (fun hH => ?_)
            clear hH
            have HB := Lib.hid (Below.refl wm.heap.size wm).drew
            generalize wm.drew = v0 at HB ⊢
            try simp only [List.setIfInBounds_toArray, List.set_cons_zero, List.set_cons_succ]
            refine Till.tL 0 [9, 10, 18] 26 (gV n A m c) (HS.out _ HB.out) ?_
            try simp only [Act.put, List.setIfInBounds_toArray, List.set_cons_zero, List.set_cons_succ]
            refine Till.tL 1 [3, 4, 9, 10, 18] 27 (.slice (some ⟨ib, io, none⟩) I.length ic) (HS.out _ HB.out) ?_
            try simp only [Act.put, List.setIfInBounds_toArray, List.set_cons_zero, List.set_cons_succ]
            refine Till.tL 2 [3, 4, 9, 10, 18] 28 (.int .i64 (i : Nat)) (HS.out _ HB.out) ?_
            try simp only [Act.put, List.setIfInBounds_toArray, List.set_cons_zero, List.set_cons_succ]
            refine Till.tL 3 [4, 9, 10, 18] 29 (.pointer (some ⟨ib, io + i, none⟩)) (HS.out _ HB.out) ?_
            try simp only [Act.put, List.setIfInBounds_toArray, List.set_cons_zero, List.set_cons_succ]
            refine Till.tL 4 [9, 10, 18] 30 (.int .i64 (a : Nat)) (HS.out _ HB.out) ?_
            try simp only [Act.put, List.setIfInBounds_toArray, List.set_cons_zero, List.set_cons_succ]
            refine Till.tL 5 [7, 8, 9, 10, 18] 31 (.slice (some ⟨b0, o0, none⟩) l.length d) (HS.out _ HB.out) ?_
            try simp only [Act.put, List.setIfInBounds_toArray, List.set_cons_zero, List.set_cons_succ]
            refine Till.one (i := 6) (by kernel_rfl) rfl (fun K hK => ?_)
            go_simp
            refine hK.out _ _ (fun _ => HS.out _ HB.out) ?_
            clear hK K
            try simp only [List.setIfInBounds_toArray, List.set_cons_zero, List.set_cons_succ]
            refine Till.one (i := 7) (by kernel_rfl) rfl (fun K hK => ?_)
            go_simp
            refine hK.out _ _ (fun _ => HS.out _ HB.out) ?_
            clear hK K
            try simp only [List.setIfInBounds_toArray, List.set_cons_zero, List.set_cons_succ]
            refine Till.tL 8 [9, 10, 18] 34 (.int .i64 (v : Nat)) (HS.out _ HB.out) ?_
            try simp only [Act.put, List.setIfInBounds_toArray, List.set_cons_zero, List.set_cons_succ]
            refine Till.one (i := 9) (by kernel_rfl) rfl (fun K hK => ?_)
            go_simp
            refine (HT.out _ HB.out).mono ?_
            rintro e v1 ⟨rfl, g⟩
            replace HB := Lib.hid (below_on HB.out g)
            clear g
            go_wp2_with fail
            refine hK.out _ _ (fun _ => HS.out _ HB.out) ?_
            clear hK K
            try simp only [List.setIfInBounds_toArray, List.set_cons_zero, List.set_cons_succ]
            refine Till.one (i := 10) (by kernel_rfl) rfl (fun K hK => ?_)
            go_simp
            refine hK.out _ _ (fun _ => HS.out _ HB.out) ?_
            clear hK K
            try simp only [List.setIfInBounds_toArray, List.set_cons_zero, List.set_cons_succ]
            refine Till.sL 11 [16, 17, 18] 37 (HS.out _ HB.out) ?_
            try simp only [Act.put, List.setIfInBounds_toArray, List.set_cons_zero, List.set_cons_succ]
            refine Till.sL 12 [14, 15, 16, 17, 18] 38 (HS.out _ HB.out) ?_
            try simp only [Act.put, List.setIfInBounds_toArray, List.set_cons_zero, List.set_cons_succ]
            refine Till.one (i := 13) (by kernel_rfl) rfl (fun K hK => ?_)
            go_simp
            refine hK.out _ _ (fun _ => HS.out _ HB.out) ?_
            clear hK K
            try simp only [List.setIfInBounds_toArray, List.set_cons_zero, List.set_cons_succ]
            refine Till.one (i := 14) (by kernel_rfl) rfl (fun K hK => ?_)
            go_simp
            refine hK.out _ _ (fun _ => HS.out _ HB.out) ?_
            clear hK K
            try simp only [List.setIfInBounds_toArray, List.set_cons_zero, List.set_cons_succ]
            refine Till.one (i := 15) (by kernel_rfl) rfl (fun K hK => ?_)
            go_simp
            refine hK.out _ _ (fun _ => HS.out _ HB.out) ?_
            clear hK K
            try simp only [List.setIfInBounds_toArray, List.set_cons_zero, List.set_cons_succ]
            refine Till.one (i := 16) (by kernel_rfl) rfl (fun K hK => ?_)
            go_simp
            refine hK.out _ _ (fun _ => HS.out _ HB.out) ?_
            clear hK K
            try simp only [List.setIfInBounds_toArray, List.set_cons_zero, List.set_cons_succ]
            refine Till.one (i := 17) (by kernel_rfl) rfl (fun K hK => ?_)
            go_simp
            refine hK.out _ _ (fun _ => HS.out _ HB.out) ?_
            clear hK K
            try simp only [List.setIfInBounds_toArray, List.set_cons_zero, List.set_cons_succ]
            refine Till.one (i := 18) (by kernel_rfl) rfl (fun K hK => ?_)
            go_simp
            refine hK.out _ _ (fun h => absurd h (by simp)) ?_
            clear hK K
            try simp only [List.setIfInBounds_toArray, List.set_cons_zero, List.set_cons_succ]
            refine Till.done (by kernel_rfl) ?_ _
            have Ow := Lib.hid (own_below Ow0.out HB.out)
            have P7 := Lib.hid (P6.out.keep HB.out)
            have Z7 := Lib.hid (Nat.le_trans Z4.out HB.out.size)
            have B7 := Lib.hid (B4.out.trans (HB.out.mono B4.out.size))
            go_wp2_with fail
            go_roundw
            case rel => exact ⟨k + 1, I, by go_num, by omega, Hn.out, Hil.out, Ow.out, P7.out, Z7.out, B7.out⟩
            case measure => simp [intOf]; omega
          · cases q2
            · have Hn := Lib.hid (YE2.out rfl rfl)
              go_upto_region 8 with fail
              refine Till.begin 18 (fun w' => w'.cell? ⟨w.heap.size, 0, none⟩ = some (.int .i64 n) ∧ w'.cell? ⟨w.heap.size, 1, none⟩ = some (.slice A m c) ∧ w'.cell? ⟨ib, io + i, none⟩ = some (.int .i64 (a : Nat)) ∧ w'.cell? ⟨b0, o0 + k, none⟩ = some (.int .i64 (v : Nat))) (by kernel_rfl) (HS.out _ (Below.refl _ _).drew) (fun hH => ?_)
              clear hH
              have HB := Lib.hid (Below.refl wm.heap.size wm).drew
              generalize wm.drew = v0 at HB ⊢
              try simp only [List.setIfInBounds_toArray, List.set_cons_zero, List.set_cons_succ]
              refine Till.tL 0 [9, 10, 18] 26 (gV n A m c) (HS.out _ HB.out) ?_
              try simp only [Act.put, List.setIfInBounds_toArray, List.set_cons_zero, List.set_cons_succ]
              refine Till.tL 1 [3, 4, 9, 10, 18] 27 (.slice (some ⟨ib, io, none⟩) I.length ic) (HS.out _ HB.out) ?_
              try simp only [Act.put, List.setIfInBounds_toArray, List.set_cons_zero, List.set_cons_succ]
              refine Till.tL 2 [3, 4, 9, 10, 18] 28 (.int .i64 (i : Nat)) (HS.out _ HB.out) ?_
              try simp only [Act.put, List.setIfInBounds_toArray, List.set_cons_zero, List.set_cons_succ]
              refine Till.tL 3 [4, 9, 10, 18] 29 (.pointer (some ⟨ib, io + i, none⟩)) (HS.out _ HB.out) ?_
              try simp only [Act.put, List.setIfInBounds_toArray, List.set_cons_zero, List.set_cons_succ]
              refine Till.tL 4 [9, 10, 18] 30 (.int .i64 (a : Nat)) (HS.out _ HB.out) ?_
              try simp only [Act.put, List.setIfInBounds_toArray, List.set_cons_zero, List.set_cons_succ]
              refine Till.tL 5 [7, 8, 9, 10, 18] 31 (.slice (some ⟨b0, o0, none⟩) l.length d) (HS.out _ HB.out) ?_
              try simp only [Act.put, List.setIfInBounds_toArray, List.set_cons_zero, List.set_cons_succ]
              refine Till.one (i := 6) (by kernel_rfl) rfl (fun K hK => ?_)
              go_simp
              refine hK.out _ _ (fun _ => HS.out _ HB.out) ?_
              clear hK K
              try simp only [List.setIfInBounds_toArray, List.set_cons_zero, List.set_cons_succ]
              refine Till.one (i := 7) (by kernel_rfl) rfl (fun K hK => ?_)
              go_simp
              refine hK.out _ _ (fun _ => HS.out _ HB.out) ?_
              clear hK K
              try simp only [List.setIfInBounds_toArray, List.set_cons_zero, List.set_cons_succ]
              refine Till.tL 8 [9, 10, 18] 34 (.int .i64 (v : Nat)) (HS.out _ HB.out) ?_
              try simp only [Act.put, List.setIfInBounds_toArray, List.set_cons_zero, List.set_cons_succ]
              refine Till.one (i := 9) (by kernel_rfl) rfl (fun K hK => ?_)
              go_simp
              refine (HT.out _ HB.out).mono ?_
              rintro e v1 ⟨rfl, g⟩
              replace HB := Lib.hid (below_on HB.out g)
              clear g
              go_wp2_with fail
              refine hK.out _ _ (fun _ => HS.out _ HB.out) ?_
              clear hK K
              try simp only [List.setIfInBounds_toArray, List.set_cons_zero, List.set_cons_succ]
              refine Till.one (i := 10) (by kernel_rfl) rfl (fun K hK => ?_)
              go_simp
              refine hK.out _ _ (fun _ => HS.out _ HB.out) ?_
              clear hK K
              try simp only [List.setIfInBounds_toArray, List.set_cons_zero, List.set_cons_succ]
              refine Till.tL 11 [16, 17, 18] 37 (.slice (some ⟨ib, io, none⟩) I.length ic) (HS.out _ HB.out) ?_
              try simp only [Act.put, List.setIfInBounds_toArray, List.set_cons_zero, List.set_cons_succ]
              refine Till.tL 12 [14, 15, 16, 17, 18] 38 (.slice (some ⟨b0, o0, none⟩) l.length d) (HS.out _ HB.out) ?_
              try simp only [Act.put, List.setIfInBounds_toArray, List.set_cons_zero, List.set_cons_succ]
              refine Till.one (i := 13) (by kernel_rfl) rfl (fun K hK => ?_)
              go_simp
              refine hK.out _ _ (fun _ => HS.out _ HB.out) ?_
              clear hK K
              try simp only [List.setIfInBounds_toArray, List.set_cons_zero, List.set_cons_succ]
              refine Till.one (i := 14) (by kernel_rfl) rfl (fun K hK => ?_)
              go_simp
              refine hK.out _ _ (fun _ => HS.out _ HB.out) ?_
              clear hK K
              try simp only [List.setIfInBounds_toArray, List.set_cons_zero, List.set_cons_succ]
              refine Till.tL 15 [16, 17, 18] 41 (.int .i64 (v : Nat)) (HS.out _ HB.out) ?_
              try simp only [Act.put, List.setIfInBounds_toArray, List.set_cons_zero, List.set_cons_succ]
              refine Till.one (i := 16) (by kernel_rfl) rfl (fun K hK => ?_)
              go_simp
              refine ((HH.out _ HB.out)).mono ?_
              rintro e v2 ⟨rfl, g⟩
              replace HB := Lib.hid (below_on HB.out g)
              clear g
              go_wp2_with fail
              refine hK.out _ _ (fun _ => HS.out _ HB.out) ?_
              clear hK K
              try simp only [List.setIfInBounds_toArray, List.set_cons_zero, List.set_cons_succ]
              refine Till.one (i := 17) (by kernel_rfl) rfl (fun K hK => ?_)
              go_simp
              refine hK.out _ _ (fun _ => HS.out _ HB.out) ?_
              clear hK K
              try simp only [List.setIfInBounds_toArray, List.set_cons_zero, List.set_cons_succ]
              refine Till.one (i := 18) (by kernel_rfl) rfl (fun K hK => ?_)
              go_simp
              refine hK.out _ _ (fun h => absurd h (by simp)) ?_
              clear hK K
              try simp only [List.setIfInBounds_toArray, List.set_cons_zero, List.set_cons_succ]
              refine Till.done (by kernel_rfl) ?_ _
              obtain ⟨wd, rfl⟩ : ∃ wd : World, wd = v2 := ⟨_, rfl⟩
              have Ow := Lib.hid (own_below Ow0.out HB.out)
              have P7 := Lib.hid (P6.out.keep HB.out)
              have hz4 := Lib.hid (Nat.le_trans Z4.out HB.out.size)
              have B7 := Lib.hid (B4.out.trans (HB.out.mono B4.out.size))
              obtain ⟨_, _, _, cs2⟩ := HS.out _ HB.out
              go_wp2_with (at_builtin; refine wpList_append_own _ rfl _ _ 25 rfl (w.heap.size + 1) 3 i0 (.int .i64 0) 1 8 Tryd.underlying25 hi hz0 hz1 hz2 rfl (by decide) _ _ _ rfl (Ow.out.alloc _) ⟨wd.heap.size, 0, none⟩ 1 1 [.int .i64 (v : Nat)] rfl rfl ?a1 ?b1 ?c1 ?d1 ?e1 ?_)
              case a1 =>
                intro k u hu
                match k, hu with
                | 0, hu => simp at hu; subst hu; simp [Addr.add]
              case b1 => intro u hu; simp at hu; subst hu; rfl
              case c1 => unfold maxLen; have := Hln.out; omega
              case d1 => have := Hln.out; omega
              case e1 => simp; have := hz4.out; omega
              intro v1 w5 hown1 hgrow1 _
              have O5 := Lib.hid (own_snoc hown1)
              have g1 := Lib.hid (fun (B : Nat) (hB : B ≤ w.heap.size + 1) (hs : w.heap.size + 1 ≤ wd.heap.size) => ((Below.refl B wd).alloc (Nat.le_trans hB hs) (.cells #[.int .i64 (v : Nat)] 3)).grown hgrow1 (by simp; omega) (fun k hk => Nat.le_trans hB (own_ge Ow.out hk)))
              clear hown1 hgrow1
              have B8 := Lib.hid (B7.out.trans (g1.out w.heap.size (Nat.le_succ _) hz4.out))
              have P8 := Lib.hid (P7.out.keepB (g1.out (w.heap.size + 1) (Nat.le_refl _) hz4.out) (Nat.lt_succ_self _))
              have Z8 := Lib.hid (Nat.le_trans hz4.out (g1.out (w.heap.size + 1) (Nat.le_refl _) hz4.out).size)
              go_wp2_with fail
              go_roundw
              case rel => exact ⟨k + 1, I ++ [v], by go_num, by omega, Hn.out, by rw [List.length_append]; have := Hil.out; omega, O5.out, P8.out, Z8.out, B8.out⟩
              case measure => simp [intOf]; omega
            · have Hn := Lib.hid (NO2.out (fun _ => rfl))
              go_upto_region 8 with fail
              refine Till.begin 18 (fun w' => w'.cell? ⟨w.heap.size, 0, none⟩ = some (.int .i64 n) ∧ w'.cell? ⟨w.heap.size, 1, none⟩ = some (.slice A m c) ∧ w'.cell? ⟨ib, io + i, none⟩ = some (.int .i64 (a : Nat)) ∧ w'.cell? ⟨b0, o0 + k, none⟩ = some (.int .i64 (v : Nat))) (by kernel_rfl) (HS.out _ (Below.refl _ _).drew) (fun hH => ?_)
              clear hH
              have HB := Lib.hid (Below.refl wm.heap.size wm).drew
              generalize wm.drew = v0 at HB ⊢
              try simp only [List.setIfInBounds_toArray, List.set_cons_zero, List.set_cons_succ]
              refine Till.tL 0 [9, 10, 18] 26 (gV n A m c) (HS.out _ HB.out) ?_
              try simp only [Act.put, List.setIfInBounds_toArray, List.set_cons_zero, List.set_cons_succ]
              refine Till.tL 1 [3, 4, 9, 10, 18] 27 (.slice (some ⟨ib, io, none⟩) I.length ic) (HS.out _ HB.out) ?_
              try simp only [Act.put, List.setIfInBounds_toArray, List.set_cons_zero, List.set_cons_succ]
              refine Till.tL 2 [3, 4, 9, 10, 18] 28 (.int .i64 (i : Nat)) (HS.out _ HB.out) ?_
              try simp only [Act.put, List.setIfInBounds_toArray, List.set_cons_zero, List.set_cons_succ]
              refine Till.tL 3 [4, 9, 10, 18] 29 (.pointer (some ⟨ib, io + i, none⟩)) (HS.out _ HB.out) ?_
              try simp only [Act.put, List.setIfInBounds_toArray, List.set_cons_zero, List.set_cons_succ]
              refine Till.tL 4 [9, 10, 18] 30 (.int .i64 (a : Nat)) (HS.out _ HB.out) ?_
              try simp only [Act.put, List.setIfInBounds_toArray, List.set_cons_zero, List.set_cons_succ]
              refine Till.tL 5 [7, 8, 9, 10, 18] 31 (.slice (some ⟨b0, o0, none⟩) l.length d) (HS.out _ HB.out) ?_
              try simp only [Act.put, List.setIfInBounds_toArray, List.set_cons_zero, List.set_cons_succ]
              refine Till.one (i := 6) (by kernel_rfl) rfl (fun K hK => ?_)
              go_simp
              refine hK.out _ _ (fun _ => HS.out _ HB.out) ?_
              clear hK K
              try simp only [List.setIfInBounds_toArray, List.set_cons_zero, List.set_cons_succ]
              refine Till.one (i := 7) (by kernel_rfl) rfl (fun K hK => ?_)
              go_simp
              refine hK.out _ _ (fun _ => HS.out _ HB.out) ?_
              clear hK K
              try simp only [List.setIfInBounds_toArray, List.set_cons_zero, List.set_cons_succ]
              refine Till.tL 8 [9, 10, 18] 34 (.int .i64 (v : Nat)) (HS.out _ HB.out) ?_
              try simp only [Act.put, List.setIfInBounds_toArray, List.set_cons_zero, List.set_cons_succ]
              refine Till.one (i := 9) (by kernel_rfl) rfl (fun K hK => ?_)
              go_simp
              refine (HT.out _ HB.out).mono ?_
              rintro e v1 ⟨rfl, g⟩
              replace HB := Lib.hid (below_on HB.out g)
              clear g
              go_wp2_with fail
              refine hK.out _ _ (fun _ => HS.out _ HB.out) ?_
              clear hK K
              try simp only [List.setIfInBounds_toArray, List.set_cons_zero, List.set_cons_succ]
              refine Till.one (i := 10) (by kernel_rfl) rfl (fun K hK => ?_)
              go_simp
              refine hK.out _ _ (fun _ => HS.out _ HB.out) ?_
              clear hK K
              try simp only [List.setIfInBounds_toArray, List.set_cons_zero, List.set_cons_succ]
              refine Till.tL 11 [16, 17, 18] 37 (.slice (some ⟨ib, io, none⟩) I.length ic) (HS.out _ HB.out) ?_
              try simp only [Act.put, List.setIfInBounds_toArray, List.set_cons_zero, List.set_cons_succ]
              refine Till.tL 12 [14, 15, 16, 17, 18] 38 (.slice (some ⟨b0, o0, none⟩) l.length d) (HS.out _ HB.out) ?_
              try simp only [Act.put, List.setIfInBounds_toArray, List.set_cons_zero, List.set_cons_succ]
              refine Till.one (i := 13) (by kernel_rfl) rfl (fun K hK => ?_)
              go_simp
              refine hK.out _ _ (fun _ => HS.out _ HB.out) ?_
              clear hK K
              try simp only [List.setIfInBounds_toArray, List.set_cons_zero, List.set_cons_succ]
              refine Till.one (i := 14) (by kernel_rfl) rfl (fun K hK => ?_)
              go_simp
              refine hK.out _ _ (fun _ => HS.out _ HB.out) ?_
              clear hK K
              try simp only [List.setIfInBounds_toArray, List.set_cons_zero, List.set_cons_succ]
              refine Till.tL 15 [16, 17, 18] 41 (.int .i64 (v : Nat)) (HS.out _ HB.out) ?_
              try simp only [Act.put, List.setIfInBounds_toArray, List.set_cons_zero, List.set_cons_succ]
              refine Till.one (i := 16) (by kernel_rfl) rfl (fun K hK => ?_)
              go_simp
              refine ((HH.out _ HB.out)).mono ?_
              rintro e v2 ⟨rfl, g⟩
              replace HB := Lib.hid (below_on HB.out g)
              clear g
              go_wp2_with fail
              refine hK.out _ _ (fun _ => HS.out _ HB.out) ?_
              clear hK K
              try simp only [List.setIfInBounds_toArray, List.set_cons_zero, List.set_cons_succ]
              refine Till.one (i := 17) (by kernel_rfl) rfl (fun K hK => ?_)
              go_simp
              refine hK.out _ _ (fun _ => HS.out _ HB.out) ?_
              clear hK K
              try simp only [List.setIfInBounds_toArray, List.set_cons_zero, List.set_cons_succ]
              refine Till.one (i := 18) (by kernel_rfl) rfl (fun K hK => ?_)
              go_simp
              refine hK.out _ _ (fun h => absurd h (by simp)) ?_
              clear hK K
              try simp only [List.setIfInBounds_toArray, List.set_cons_zero, List.set_cons_succ]
              refine Till.done (by kernel_rfl) ?_ _
              have Ow := Lib.hid (own_below Ow0.out HB.out)
              have P7 := Lib.hid (P6.out.keep HB.out)
              have Z7 := Lib.hid (Nat.le_trans Z4.out HB.out.size)
              have B7 := Lib.hid (B4.out.trans (HB.out.mono B4.out.size))
              go_wp2_with fail
              go_roundw
              case rel => exact ⟨k + 1, I, by go_num, by omega, Hn.out, Hil.out, Ow.out, P7.out, Z7.out, B7.out⟩
              case measure => simp [intOf]; omega
        · have Hn := Lib.hid (NX.out I i k Hpi.out (by omega) Hil.out)
          have i64 := Lib.hid (show i + 1 ≤ 64 by have := Hil.out; omega)
          go_wp2_with fail
          go_roundw
          case rel => exact ⟨i + 1, I, by go_num, i64.out, Hn.out, Ow0.out, P6.out, Z4.out, B4.out⟩
          case measure => simp [intOf]; have := i64.out; omega
    · obtain ⟨wo, rfl⟩ : ∃ wo : World, wo = wr := ⟨_, rfl⟩
      have HD := Lib.hid (DN.out I i 0 Hpi.out (by omega))
      obtain ⟨A4', ic4', e4, hn4⟩ := own_at Ow0.out
      injection e4 with e41 _ e43
      subst e41 e43
      have HN := Lib.hid hn4
      have hI := Lib.hid (show I.length ≤ 1000000 by omega)
      clear hn4 hle
      go_wp2_with fail
      go_loopw [9, 8] (fun sk sv wr => ∃ k : Nat, sk = .int .i64 (k : Nat) ∧ k ≤ l.length ∧ wr.ownsRow wo.heap.size 3 1 sv ((l.take k).filter fun v => I.contains v).length (nats ((l.take k).filter fun v => I.contains v)) ∧ Below wo.heap.size wo wr) (fun sk _ _ => l.length - (intOf sk).toNat)
      case atStart => exact ⟨0, rfl, Nat.zero_le _, World.ownsRow_nil _ _ _ _, Below.refl _ _⟩
      case round =>
        obtain ⟨k, rfl, hk, how, hbb⟩ := hrel
        have Ow := Lib.hid how
        have B9 := Lib.hid hbb
        have BW := Lib.hid (B4.out.trans (hbb.mono B4.out.size))
        clear how hbb
        by_cases hlk : k < l.length
        · obtain ⟨x, sb, so, hx, e8, hsb, cs⟩ := (HI.out wr BW.out).at_ (k := k) (by rw [zs_len]; exact hlk)
          injection e8 with e8
          injection e8 with e81 e82
          subst e81 e82
          obtain ⟨v, hv, rfl⟩ := zs_at hx
          have HU := Lib.hid (fil_up (I := I) hv)
          have Hln := Lib.hid (fil_len l I k)
          have HH := has_nat A4 ic4 I v wr (HN.out.il.keep B9.out) hI.out
          obtain ⟨q, hq⟩ : ∃ q, I.contains v = q := ⟨_, rfl⟩
          rw [hq] at HU HH
          have HH := Lib.hid HH
          have hz4 := Lib.hid B9.out.size
          clear hx hv hq hsb
          cases q
          · have Hn := Lib.hid (show ((l.take (k + 1)).filter fun v => I.contains v) = (l.take k).filter fun v => I.contains v by rw [HU.out]; simp)
            go_wp2_with fail
            refine HH.out.mono ?_
            rintro e w4 ⟨rfl, rfl⟩
            go_wp2_with fail
            go_roundw
            case rel => exact ⟨k + 1, by go_num, by omega, by rw [Hn.out]; exact Ow.out, B9.out⟩
            case measure => simp [intOf]; omega
          · have Hn := Lib.hid (show ((l.take (k + 1)).filter fun v => I.contains v) = ((l.take k).filter fun v => I.contains v) ++ [v] by rw [HU.out]; simp)
            go_wp2_with fail
            refine HH.out.mono ?_
            rintro e w4 ⟨rfl, rfl⟩
            go_wp2_with (at_builtin; refine wpList_append_own _ rfl _ _ 25 rfl (wo.heap.size) 3 i0 (.int .i64 0) 1 8 Tryd.underlying25 hi hz0 hz1 hz2 rfl (by decide) _ _ _ rfl (Ow.out.alloc _) ⟨wr.heap.size, 0, none⟩ 1 1 [.int .i64 (v : Nat)] rfl rfl ?a2 ?b2 ?c2 ?d2 ?e2 ?_)
            case a2 =>
              intro k u hu
              match k, hu with
              | 0, hu => simp at hu; subst hu; simp [Addr.add]
            case b2 => intro u hu; simp at hu; subst hu; rfl
            case c2 => unfold maxLen; have := Hln.out; omega
            case d2 => have := Hln.out; omega
            case e2 => simp; have := hz4.out; omega
            intro v2 w5 hown2 hgrow2 _
            have O5 := Lib.hid (own_snoc hown2)
            have g2 := Lib.hid (fun (B : Nat) (hB : B ≤ wo.heap.size) (hs : wo.heap.size ≤ wr.heap.size) => ((Below.refl B wr).alloc (Nat.le_trans hB hs) (.cells #[.int .i64 (v : Nat)] 3)).grown hgrow2 (by simp; omega) (fun k hk => Nat.le_trans hB (own_ge Ow.out hk)))
            clear hown2 hgrow2
            have B8 := Lib.hid (B9.out.trans (g2.out wo.heap.size (Nat.le_refl _) hz4.out))
            go_wp2_with fail
            go_roundw
            case rel => exact ⟨k + 1, by go_num, by omega, by rw [Hn.out]; simpa using O5.out, B8.out⟩
            case measure => simp [intOf]; omega
        · have Hf := Lib.hid (show ((l.take k).filter fun v => I.contains v) = bitsOf (pieceM (adj es) s) by
            rw [List.take_of_length_le (by omega), ← AP.out, ← BF.out]
            exact List.filter_congr fun v _ => by rw [HD.out v])
          rw [Hf.out] at Ow
          have hwo := Lib.hid B4.out.size
          go_wp2_with fail
          go_ret
          exact ⟨_, rfl, own_down' Ow.out hwo.out, BW.out⟩
end Go.Proofs.YtdpfoegcmngdfaaDoor
