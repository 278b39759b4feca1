/- The reference's Table. -/
import Derived.Test.YthocdmlacfejkaaDoorTbm
import Derived.Test.YthocdmlacfejkaaDoorSnk
namespace Go.Proofs.YthocdmlacfejkaaDoor
open Go.RowKit
set_option maxRecDepth 100000 in
set_option maxHeartbeats 8000000 in
theorem table_any (n : Nat) (A : Option Addr) (m c : Nat) (es : List (Nat × Nat)) (w : World) (h : EL w A m (cast es)) (hg : Fine n es) :
    Calls Tryd.prog 96 #[gV n A m c] w fun e w' => ∃ v, e = .returned v ∧ OutT w.heap.size w' v n n (fun a => tabF es a (n + 1)) ∧ Below w.heap.size w w' := by
  obtain ⟨i0, hi, hz0, hz1, hz2⟩ := info_parts info_int
  obtain ⟨j0, hj, jz0, jz1, jz2⟩ := info_parts info_ints
  have hlen := h.len
  have hm : m ≤ 4096 := by have := hg.len; omega
  have hn64 := hg.n64
  have kv := (Below.refl w.heap.size w).alloc (Nat.le_refl _) (.cells #[.int .i64 (n : Nat), .slice A m c] 35)
  have G0 := Lib.hid (Cells.new w #[.int .i64 (n : Nat), .slice A m c] 35)
  have E0 := Lib.hid h
  have HLow := Lib.hid hg.low
  have HLow64 := Lib.hid hg.low64
  have kv := Lib.hid kv
  have Hlen := Lib.hid hlen
  clear h hg hlen
  go_enter Tryd.func96, Tryd.ntmps96
  go_wp2_with fail
  go_loopw [3, 4, 5, 6, 7, 8] (fun v i _ _ _ _ wr => ∃ a : Nat, i = .int .i64 (a : Nat) ∧ a ≤ n ∧ OutT (w.heap.size + 1) wr v a n (fun a => tabF es a (n + 1)) ∧ Cells wr w.heap.size [.int .i64 (n : Nat), .slice A m c] ∧ Below w.heap.size w wr) (fun _ i _ _ _ _ _ => n - (intOf i).toNat)
  case atStart => exact ⟨0, rfl, Nat.zero_le _, ⟨[], World.ownsRow_nil _ _ _ _, fun a ha => absurd ha (Nat.not_lt_zero _)⟩, G0.out, kv.out⟩
  case round =>
    obtain ⟨a, rfl, ha, hout, hgc, hb⟩ := hrel
    have Hout := Lib.hid hout
    have B6 := Lib.hid hb
    have G6 := Lib.hid hgc
    clear hout hb hgc
    obtain ⟨wa, rfl⟩ : ∃ wa : World, wa = wr := ⟨_, rfl⟩
    have g0 := G6.out.at_ 0
    simp only [List.getElem?_cons_zero] at g0
    by_cases hlt : a < n
    · have Hlt := Lib.hid hlt
      go_wp2_with (at_make; refine wpList_make_full _ rfl _ _ 50 rfl wa.heap.size 3 i0 (.int .i64 0) 1 Tryd.underlying50 hi hz0 hz1 _ _ _ _ n rfl rfl rfl rfl (by rw [hz2]; omega) (by unfold maxLen; omega) (Nat.le_refl _) ?_)
      intro w2 hown hgr
      have R2 := Lib.hid (made_row hown)
      have b2 := (Below.refl wa.heap.size wa).grown hgr (Nat.le_refl _) (by simp)
      have B2 := Lib.hid b2
      clear hown hgr g0 b2
      obtain ⟨p, hp⟩ : ∃ p, wa.heap.size = p := ⟨_, rfl⟩
      rw [hp] at R2 B2 ⊢
      have Hp := Lib.hid hp
      have HG := Lib.hid (fun w' (hb' : Below p wa w') => G6.out.keep (w' := w') (by rw [hp]; exact hb'))
      have HE := Lib.hid (fun w' (hb' : Below p wa w') => E0.out.keep (below_on B6.out (w' := w') (by rw [hp]; exact hb')))
      clear hp
      go_wp2_with fail
      go_loopw [6] (fun i wr => ∃ k : Nat, i = .int .i64 (k : Nat) ∧ k ≤ n ∧ Row wr p 3 (numsN n fun v => if v < k then -1 else 0) ∧ Below p wa wr) (fun i _ => n - (intOf i).toNat)
      case atStart => exact ⟨0, rfl, Nat.zero_le _, by simpa using R2.out, B2.out⟩
      case round =>
        obtain ⟨k, rfl, hk, hr, hb⟩ := hrel
        have Hr := Lib.hid hr
        have Hb := Lib.hid hb
        clear hr hb
        obtain ⟨wb, rfl⟩ : ∃ wb : World, wb = wr := ⟨_, rfl⟩
        have g0 := (HG.out _ Hb.out).at_ 0
        have g1 := (HG.out _ Hb.out).at_ 1
        simp only [List.getElem?_cons_zero, List.getElem?_cons_succ] at g0 g1
        by_cases hkn : k < n
        · have Hkn := Lib.hid hkn
          have z0 := (Hr.out.cells.at_ k).trans (numsN_at _ hkn)
          have f0 := Hr.out.cells.fz k
          obtain ⟨x0, hx0⟩ : ∃ x : Int, (if k < k then (-1 : Int) else 0) = x := ⟨_, rfl⟩
          rw [hx0] at z0
          have R3 := Hr.out.set k (.int .i64 (-1))
          rw [numsN_set, numsN_congr (f' := fun v => if v < k + 1 then -1 else 0) (fun v _ => by
            by_cases h : k = v
            · subst h; simp
            · by_cases h2 : v < k
              · simp [h, h2, show v < k + 1 by omega]
              · simp [h, h2, show ¬ v < k + 1 by omega])] at R3
          have R3 := Lib.hid R3
          have B3 := Lib.hid (Hb.out.setCell (p := ⟨p, k, none⟩) (Nat.le_refl _) (.int .i64 (-1)))
          clear hx0
          go_wp2_with fail
          go_roundw
          case rel => exact ⟨k + 1, by go_num, Hkn.out, R3.out, B3.out⟩
          case measure => simp [intOf]; have := Hkn.out; omega
        · have z0 := (Hr.out.cells.at_ a).trans (numsN_at _ Hlt.out)
          have f0 := Hr.out.cells.fz a
          obtain ⟨x0, hx0⟩ : ∃ x : Int, (if a < k then (-1 : Int) else 0) = x := ⟨_, rfl⟩
          rw [hx0] at z0
          have R3 := Hr.out.set a (.int .i64 0)
          rw [numsN_set, numsN_congr (f' := tabF es a 1) (fun v hv => by
            rw [← tabF_one]
            by_cases h : a = v
            · rw [if_pos h, if_pos h]
            · rw [if_neg h, if_neg h, if_pos (by omega)])] at R3
          have R3 := Lib.hid R3
          have B3 := Lib.hid (Hb.out.setCell (p := ⟨p, a, none⟩) (Nat.le_refl _) (.int .i64 0))
          have hai : (a : Int) < n := by have := Hlt.out; omega
          clear hx0
          go_wp2_with fail
          clear hkn
          go_loopw [7, 8] (fun s _ wr => ∃ k : Nat, s = .int .i64 (k : Nat) ∧ 1 ≤ k ∧ k ≤ n + 1 ∧ Row wr p 3 (numsN n (tabF es a k)) ∧ Below p wa wr) (fun s _ _ => n + 1 - (intOf s).toNat)
          case atStart => exact ⟨1, rfl, Nat.le_refl _, by omega, R3.out, B3.out⟩
          case round =>
            obtain ⟨st, rfl, hs1, hs2, hr, hb⟩ := hrel
            have Hr := Lib.hid hr
            have Hb := Lib.hid hb
            clear hr hb
            obtain ⟨wc, rfl⟩ : ∃ wc : World, wc = wr := ⟨_, rfl⟩
            have g0 := (HG.out _ Hb.out).at_ 0
            have g1 := (HG.out _ Hb.out).at_ 1
            simp only [List.getElem?_cons_zero, List.getElem?_cons_succ] at g0 g1
            by_cases hsn : st ≤ n
            · have Hsn := Lib.hid hsn
              have R4 := Hr.out
              rw [numsN_congr (f' := rowP es a st 0) (fun v _ => (rowP_zero es a st v).symm)] at R4
              have R4 := Lib.hid R4
              go_wp2_with fail
              go_loopw [8] (fun i wr => ∃ k : Nat, i = .int .i64 (k : Nat) ∧ k ≤ m ∧ Row wr p 3 (numsN n (rowP es a st k)) ∧ Below p wa wr) (fun i _ => m - (intOf i).toNat)
              case atStart => exact ⟨0, rfl, Nat.zero_le _, R4.out, Hb.out⟩
              case round =>
                obtain ⟨k, rfl, hk, hr, hb⟩ := hrel
                have Hr := Lib.hid hr
                have Hb := Lib.hid hb
                clear hr hb
                obtain ⟨wd, rfl⟩ : ∃ wd : World, wd = wr := ⟨_, rfl⟩
                have g0 := (HG.out _ Hb.out).at_ 0
                have g1 := (HG.out _ Hb.out).at_ 1
                simp only [List.getElem?_cons_zero, List.getElem?_cons_succ] at g0 g1
                by_cases hkm : k < m
                · obtain ⟨e, b, o, he, rfl, hbl, c0, c1⟩ := (HE.out _ Hb.out).at_ hkm
                  obtain ⟨x, y, hxy, rfl⟩ := cast_at he
                  obtain ⟨hx, hy⟩ := HLow.out _ (List.mem_of_getElem? hxy)
                  simp only at c0 c1 hx hy
                  have Hxy := Lib.hid hxy
                  have Hkm := Lib.hid hkm
                  have x0 := (Hr.out.cells.at_ x).trans (numsN_at _ hx)
                  have y0 := (Hr.out.cells.at_ y).trans (numsN_at _ hy)
                  have f0 := Hr.out.cells.fz y
                  have hxi : (x : Int) < n := by omega
                  have hyi : (y : Int) < n := by omega
                  have ew : IntKind.i64.wrap ((st : Int) - 1) = (st : Int) - 1 := IntWalk.i64_in _ (by omega)
                  clear he hxy
                  obtain ⟨u, hu⟩ : ∃ u, rowP es a st k x = u := ⟨_, rfl⟩
                  obtain ⟨v, hv⟩ : ∃ v, rowP es a st k y = v := ⟨_, rfl⟩
                  rw [hu] at x0
                  rw [hv] at y0
                  have Hu := Lib.hid hu
                  have Hv := Lib.hid hv
                  clear hu hv
                  by_cases h1 : u = (st : Int) - 1
                  · have t1 : (u == (st : Int) - 1) = true := by rw [beq_iff_eq]; exact h1
                    by_cases h2 : v < 0
                    · have t2 : decide (v < 0) = true := decide_eq_true h2
                      have R5 := Hr.out.set y (.int .i64 (st : Nat))
                      rw [numsN_set, numsN_congr (f' := rowP es a st (k + 1)) (fun j _ => rowP_yes Hxy.out hs1 (by rw [Hu.out]; exact h1) (by rw [Hv.out]; exact h2) j)] at R5
                      have R5 := Lib.hid R5
                      have B5 := Lib.hid (Hb.out.setCell (p := ⟨p, y, none⟩) (Nat.le_refl _) (.int .i64 (st : Nat)))
                      clear h1 h2
                      go_wp2_with fail
                      go_roundw
                      case rel => exact ⟨k + 1, by go_num, Hkm.out, R5.out, B5.out⟩
                      case measure => simp [intOf]; have := Hkm.out; omega
                    · have t2 : decide (v < 0) = false := decide_eq_false h2
                      have R5 := Hr.out
                      rw [numsN_congr (f' := rowP es a st (k + 1)) (fun j _ => rowP_no2 Hxy.out (by rw [Hv.out]; omega) j)] at R5
                      have R5 := Lib.hid R5
                      clear h1 h2
                      go_wp2_with fail
                      go_roundw
                      case rel => exact ⟨k + 1, by go_num, Hkm.out, R5.out, Hb.out⟩
                      case measure => simp [intOf]; have := Hkm.out; omega
                  · have t1 : (u == (st : Int) - 1) = false := by rw [beq_eq_false_iff_ne]; exact h1
                    have R5 := Hr.out
                    rw [numsN_congr (f' := rowP es a st (k + 1)) (fun j _ => rowP_no1 Hxy.out hs1 (by rw [Hu.out]; exact h1) j)] at R5
                    have R5 := Lib.hid R5
                    clear h1
                    go_wp2_with fail
                    go_roundw
                    case rel => exact ⟨k + 1, by go_num, Hkm.out, R5.out, Hb.out⟩
                    case measure => simp [intOf]; have := Hkm.out; omega
                · have R5 := Hr.out
                  rw [numsN_congr (f' := tabF es a (st + 1)) (fun j _ => rowP_end HLow64.out hs1 (by rw [Hlen.out]; omega) j)] at R5
                  have R5 := Lib.hid R5
                  go_wp2_with fail
                  go_roundw
                  case rel => exact ⟨st + 1, by go_num, by omega, by have := Hsn.out; omega, R5.out, Hb.out⟩
                  case measure => simp [intOf]; have := Hsn.out; omega
            · have hsn' : st = n + 1 := by omega
              subst hsn'
              obtain ⟨vs, hown, hrows⟩ := Hout.out
              have hown' := own_below hown (w' := wc) (by rw [Hp.out]; exact Hb.out)
              have Ho := Lib.hid hown'
              have Hrows := Lib.hid (fun q (hq : q < a) => let ⟨p, e, hr⟩ := hrows q hq; (⟨p, e, hr.keep (by rw [Hp.out]; exact Hb.out)⟩ : ∃ p : Nat, vs[q]? = some (Value.slice (some ⟨p, 0, none⟩) n n) ∧ Row wc p 3 (numsN n (tabF es q (n + 1)))))
              have hvl : vs.length = a := by have := hown.1; omega
              have hpc : p ≤ wc.heap.size := by have := Hb.out.size; have := Hp.out; omega
              have Hvl := Lib.hid hvl
              have hbc : w.heap.size + 1 ≤ wc.heap.size := (HG.out _ Hb.out).lt
              have hwp : w.heap.size ≤ p := by have := B6.out.size; have := Hp.out; omega
              clear hown hown' hrows hvl
              go_wp2_with (at_builtin; refine wpList_append_own _ rfl _ _ 47 rfl (w.heap.size + 1) 50 j0 (.slice none 0 0) 1 24 Tryd.underlying47 hj jz0 jz1 jz2 rfl (by decide) _ _ _ rfl (Ho.out.alloc _) ⟨wc.heap.size, 0, none⟩ 1 1 [.slice (some ⟨p, 0, none⟩) n n] rfl rfl ?c1 ?c2 ?c3 ?c4 ?c5 ?_)
              case c1 =>
                intro k u hu
                match k, hu with
                | 0, hu => simp at hu; subst hu; simp [Addr.add]
              case c2 => intro u hu; simp at hu; subst hu; rfl
              case c3 => unfold maxLen; omega
              case c4 => omega
              case c5 => simp; omega
              intro v' w3 hown' hgrow _
              have HO := Lib.hid (show OutT (w.heap.size + 1) w3 v' (a + 1) n (fun a => tabF es a (n + 1)) from ⟨_, hown', fun q hq => by
                rcases Nat.lt_or_ge q a with h1 | h1
                · obtain ⟨p1, e1, r1⟩ := Hrows.out q h1
                  exact ⟨p1, by rw [List.getElem?_append_left (by rw [Hvl.out]; exact h1)]; exact e1, row_grown r1 Ho.out hgrow⟩
                · obtain rfl : q = a := by omega
                  exact ⟨p, by rw [List.getElem?_append_right (by rw [Hvl.out]; exact Nat.le_refl _), Hvl.out]; simp, row_grown Hr.out Ho.out hgrow⟩⟩)
              have B7 := Lib.hid (((B6.out.trans (Hb.out.mono hwp)).alloc (by omega) (.cells #[.slice (some ⟨p, 0, none⟩) n n] 50)).grown hgrow (by simp; omega) (fun k hk => Nat.le_of_succ_le (own_ge Ho.out hk)))
              have G7 := Lib.hid ((HG.out _ Hb.out).keepB (B := w.heap.size + 1) (((Below.refl (w.heap.size + 1) wc).alloc hbc (.cells #[.slice (some ⟨p, 0, none⟩) n n] 50)).grown hgrow (by simp; omega) (fun k hk => own_ge Ho.out hk)) (Nat.lt_succ_self _))
              clear hown' hgrow
              go_wp2_with fail
              go_roundw
              case rel => exact ⟨a + 1, by go_num, Hlt.out, HO.out, G7.out, B7.out⟩
              case measure => simp [intOf]; have := Hlt.out; omega
    · have han : a = n := by omega
      subst han
      go_wp2_with fail
      go_ret
      exact ⟨_, rfl, Hout.out.down (Nat.le_succ _), B6.out⟩
end Go.Proofs.YthocdmlacfejkaaDoor
