/- The reference's Reach, Closure, Closed. -/
import Derived.Test.YthocdmlacfejkaaDoorTab
namespace Go.Proofs.YthocdmlacfejkaaDoor
open Go.RowKit
theorem zs_at {l : List Nat} {j : Nat} {x : Int} (h : (zs l)[j]? = some x) : ∃ y : Nat, l[j]? = some y ∧ x = (y : Int) := by
  unfold zs at h
  rw [List.getElem?_map] at h
  cases h1 : l[j]? with
  | none => rw [h1] at h; cases h
  | some p => rw [h1] at h; injection h with h; exact ⟨p, rfl, h.symm⟩
theorem reachB_step {es : List (Nat × Nat)} {l : List Nat} {j y b : Nat} (h : l[j]? = some y) : (l.take (j + 1)).any (fun a => decide (0 ≤ dist (adj es) (sing a) b)) = ((l.take j).any (fun a => decide (0 ≤ dist (adj es) (sing a) b)) || decide (0 ≤ dist (adj es) (sing y) b)) := by
  rw [List.take_add_one, h, List.any_append]; simp
theorem reach_up (r : Nat → Bool) (k : Nat) : (List.range (k + 1)).filter r = (List.range k).filter r ++ if r k then [k] else [] := by
  rw [List.range_succ, List.filter_append, List.filter_cons]
  cases r k <;> rfl
set_option maxRecDepth 100000 in
set_option maxHeartbeats 8000000 in
theorem refReach_any (n : Nat) (A : Option Addr) (m c : Nat) (es : List (Nat × Nat)) (B : Option Addr) (d : Nat) (l : List Nat) (w : World) (h : EL w A m (cast es)) (hg : Fine n es) (hl : IL w B (zs l)) (hll : l.length ≤ 1000000) (hin : ∀ a ∈ l, a < n) :
    Calls Tryd.prog 42 #[gV n A m c, .slice B l.length d] w fun e w' => ∃ v, e = .returned v ∧ w'.ownsRow w.heap.size 3 1 v (reachL n es l).length (nats (reachL n es l)) ∧ Below w.heap.size w w' := by
  obtain ⟨i0, hi, hz0, hz1, hz2⟩ := info_parts info_int
  have hn64 := hg.n64
  have kv := (Below.refl w.heap.size w).alloc (Nat.le_refl _) (.cells #[.int .i64 (n : Nat), .slice A m c] 35)
  have G0 := Lib.hid (Cells.new w #[.int .i64 (n : Nat), .slice A m c] 35)
  have HT := Lib.hid (table_any n A m c es _ (h.keep kv) hg)
  have L0 := Lib.hid (hl.keep kv)
  have Hin := Lib.hid hin
  have Hd := Lib.hid (fun a (ha : a < n) v => tabF_full hg.low hn64 ha v)
  have kv := Lib.hid kv
  clear h hg hl hin
  go_enter Tryd.func42, Tryd.ntmps42
  have g0 := G0.out.at_ 0
  have g1 := G0.out.at_ 1
  simp only [List.getElem?_cons_zero, List.getElem?_cons_succ] at g0 g1
  go_wp2_with fail
  refine HT.out.mono ?_
  rintro e w1 ⟨v, rfl, hout, hb1⟩
  obtain ⟨T, cT, rfl, hrows⟩ := hout.at_
  have Hrows := Lib.hid hrows
  have L1 := Lib.hid (L0.out.keep hb1)
  have G1 := Lib.hid (G0.out.keep hb1)
  have B1 := Lib.hid (below_on kv.out hb1)
  clear hb1 hout hrows g0 g1
  go_wp2_with fail
  go_loopw [6, 7, 8, 9] (fun v b _ _ wr => ∃ k : Nat, b = .int .i64 (k : Nat) ∧ k ≤ n ∧ wr.ownsRow w1.heap.size 3 1 v ((List.range k).filter (reachB es l)).length (nats ((List.range k).filter (reachB es l))) ∧ Below w1.heap.size w1 wr) (fun _ b _ _ _ => n - (intOf b).toNat)
  case atStart => exact ⟨0, rfl, Nat.zero_le _, World.ownsRow_nil _ _ _ _, Below.refl _ _⟩
  case round =>
    obtain ⟨k, rfl, hk, hown, hb⟩ := hrel
    have O6 := Lib.hid hown
    have B6 := Lib.hid hb
    have hsz := hb.size
    have g0 := (G1.out.keep hb).at_ 0
    simp only [List.getElem?_cons_zero] at g0
    clear hown hb
    obtain ⟨wa, rfl⟩ : ∃ wa : World, wa = wr := ⟨_, rfl⟩
    by_cases hlt : k < n
    · have Hlt := Lib.hid hlt
      have hki : (k : Int) < n := by omega
      have hfl : ((List.range k).filter (reachB es l)).length ≤ 64 := by
        have := List.length_filter_le (reachB es l) (List.range k)
        rw [List.length_range] at this
        omega
      have Hfl := Lib.hid hfl
      have Hup := Lib.hid (reach_up (reachB es l) k)
      have HB := Lib.hid (show reachB es l k = l.any (fun a => decide (0 ≤ dist (adj es) (sing a) k)) from rfl)
      clear hfl
      go_wp2_with fail
      go_loop [8, 9] (fun s i => ∃ j : Nat, i = .int .i64 (j : Nat) ∧ j ≤ l.length ∧ s = .bool ((l.take j).any fun a => decide (0 ≤ dist (adj es) (sing a) k))) (fun _ i => l.length - (intOf i).toNat)
      case atStart => exact ⟨0, rfl, Nat.zero_le _, rfl⟩
      case round =>
        obtain ⟨j, rfl, hj, rfl⟩ := hrel
        by_cases hjl : j < l.length
        · obtain ⟨x, b, o, hx, rfl, _, hcell⟩ := (L1.out.keep B6.out).at_ (k := j) (by rw [zs_len]; exact hjl)
          obtain ⟨y, hy, rfl⟩ := zs_at hx
          have hyn := Hin.out y (List.mem_of_getElem? hy)
          obtain ⟨gt, p, rfl, t1, hc⟩ := Hrows.out y hyn
          have hc6 := (hc.keep B6.out).at_ k
          rw [numsN_at _ hlt, Hd.out y hyn k] at hc6
          have t6 := (B6.out.cell (p := ⟨gt, y, none⟩) (World.block_lt_of_cell? w1 ⟨gt, y, none⟩ t1)).trans t1
          have Hs := Lib.hid (reachB_step (es := es) (b := k) hy)
          have Hjl := Lib.hid hjl
          have hyi : (y : Int) < n := by omega
          obtain ⟨u, hu⟩ : ∃ u, dist (adj es) (sing y) k = u := ⟨_, rfl⟩
          rw [hu] at hc6
          have Hu := Lib.hid hu
          obtain ⟨bb, hbb⟩ : ∃ bb, ((l.take j).any fun a => decide (0 ≤ dist (adj es) (sing a) k)) = bb := ⟨_, rfl⟩
          rw [hbb]
          have Hbb := Lib.hid hbb
          clear hx hy t1 hc hu hbb
          cases bb with
          | true =>
            go_wp2_with fail
            go_round
            case rel => exact ⟨j + 1, by go_num, Hjl.out, by rw [Hs.out, Hbb.out]; rfl⟩
            case measure => simp [intOf]; have := Hjl.out; omega
          | false =>
            by_cases h0 : 0 ≤ u
            · have t0 : decide (0 ≤ u) = true := decide_eq_true h0
              go_wp2_with fail
              go_round
              case rel => exact ⟨j + 1, by go_num, Hjl.out, by rw [Hs.out, Hbb.out, Hu.out, decide_eq_true h0]; rfl⟩
              case measure => simp [intOf]; have := Hjl.out; omega
            · have t0 : decide (0 ≤ u) = false := decide_eq_false h0
              go_wp2_with fail
              go_round
              case rel => exact ⟨j + 1, by go_num, Hjl.out, by rw [Hs.out, Hbb.out, Hu.out, decide_eq_false h0]; rfl⟩
              case measure => simp [intOf]; have := Hjl.out; omega
        · have hjl' : l.take j = l := List.take_of_length_le (by omega)
          rw [hjl']
          rw [← HB.out]
          clear hjl'
          cases hr : reachB es l k with
          | true =>
            rw [hr] at Hup
            have Hr := Lib.hid hr
            clear hr
            go_wp2_with (at_builtin; refine wpList_append_own _ rfl _ _ 50 rfl w1.heap.size 3 i0 (.int .i64 0) 1 8 Tryd.underlying50 hi hz0 hz1 hz2 rfl (by decide) _ _ _ rfl (O6.out.alloc _) ⟨wa.heap.size, 0, none⟩ 1 1 [.int .i64 (k : Nat)] rfl rfl ?c1 ?c2 ?c3 ?c4 ?c5 ?_)
            case c2 => rfl
            case c3 => unfold maxLen; have := Hfl.out; omega
            case c4 => have := Hfl.out; omega
            case c5 => omega
            intro v' w3 hown' hgrow _
            have B7 := Lib.hid ((B6.out.alloc hsz (.cells #[.int .i64 (k : Nat)] 3)).grown hgrow (by simp; omega) (fun k hk => own_ge O6.out hk))
            have O7 := Lib.hid (show w3.ownsRow w1.heap.size 3 1 v' ((List.range (k + 1)).filter (reachB es l)).length (nats ((List.range (k + 1)).filter (reachB es l))) by
              rw [Hup.out, if_pos trivial, List.length_append, nats_snoc]; exact hown')
            clear hown' hgrow
            go_wp2_with fail
            go_roundw
            case rel => exact ⟨k + 1, by go_num, Hlt.out, O7.out, B7.out⟩
            case measure => simp [intOf]; have := Hlt.out; omega
          | false =>
            rw [hr] at Hup
            have O7 := Lib.hid (show wa.ownsRow w1.heap.size 3 1 _ ((List.range (k + 1)).filter (reachB es l)).length (nats ((List.range (k + 1)).filter (reachB es l))) by
              rw [Hup.out, if_neg (by simp), List.append_nil]; exact O6.out)
            clear hr
            go_wp2_with fail
            go_roundw
            case rel => exact ⟨k + 1, by go_num, Hlt.out, O7.out, B6.out⟩
            case measure => simp [intOf]; have := Hlt.out; omega
    · have hkn : k = n := by omega
      subst hkn
      have Of := Lib.hid (own_down' O6.out B1.out.size)
      have Bf := Lib.hid (below_on B1.out B6.out)
      go_wp2_with fail
      go_ret
      exact ⟨_, rfl, Of.out, Bf.out⟩
end Go.Proofs.YthocdmlacfejkaaDoor
