/- A valid family passes the check. -/
import Derived.Carry
import Derived.Laws.Cover1
import Derived.Laws.Strings
import Derived.Test.YtmfmpkihmadjmaaVf
namespace Go.Proofs.Ytmfmpkihmadjmaa
open Go.RowKit Go.Maps Go.WideMaps
theorem grown_of {W W' : World} (h : Below W.heap.size W W') : W.grownBy W' none := ⟨h.os, h.tape, h.output, h.size, fun k hk _ => h.block k hk⟩
theorem nodup_at {α : Type} : ∀ {l : List α} {j : Nat} {x : α}, l.Nodup → l[j]? = some x → x ∉ l.take j
  | [], _, _, _, h => by simp at h
  | a :: l, 0, x, _, _ => by simp
  | a :: l, j + 1, x, hn, h => by
    rw [List.nodup_cons] at hn
    rw [List.getElem?_cons_succ] at h
    rw [List.take_succ_cons, List.mem_cons, not_or]
    refine ⟨fun e => hn.1 ?_, nodup_at hn.2 h⟩
    rw [← e]; exact List.mem_of_getElem? h
theorem Cells.grown {w w' : World} {p b : Nat} {vs : List Value} (h : Cells w p vs) (hg : w.grownBy w' (some b)) (hne : p ≠ b) : Cells w' p vs := by
  have hb := hg.block p h.lt (fun e => hne (by injection e))
  exact ⟨fun i => (World.cell?_of_block (a := ⟨p, i, none⟩) hb).trans (h.at_ i), fun i => (World.frozen?_of_block (a := ⟨p, i, none⟩) hb).trans (h.fz i), Nat.lt_of_lt_of_le h.lt hg.size⟩
set_option maxRecDepth 100000 in
set_option maxHeartbeats 16000000 in
theorem check_ok (f : Fm) (os : List ByteArray) (rs : List (ByteArray × List (Nat × Bool))) (gs : List (Nat × List (Nat × Bool))) (vs : List Ov) (ds : List Dm) (w : World) (h : FamOK w f os rs gs vs ds) :
    Calls Try.prog 38 #[f.v] w fun e w' => e = .returned (.int .i64 0) ∧ Below w.heap.size w w' := by
  have hmm := @run_makeMap Try.prog
  have hn12 := h.n12
  have HC := fun A m d ls w' hl (hm : ls.length = m) (hm2 : m ≤ 12) => checkChoice_any f A m d ls w' hl hm (by omega) (by omega)
  have HO := fun A m d ls dim nm no lo up w' hl (hm : ls.length = m) (hm2 : m ≤ 12) hc hd hdm => checkOverride_ok f A m d ls dim nm no lo up ds w' hl hm hm2 hn12 hc hd h.dsl h.dn6 hdm
  have hosL := h.osL
  have hosl := h.osl
  have hosn := h.osn
  have hoso := h.oso
  have hrsL := h.rsL
  have hrsl := h.rsl
  have hr48 := h.r48
  have hrsn := h.rsn
  have hrsd := h.rsd
  have hgsL := h.gsL
  have hgsl := h.gsl
  have hg48 := h.g48
  have hgsn := h.gsn
  have hvsL := h.vsL
  have hvsl := h.vsl
  have hv48 := h.v48
  have hvsn := h.vsn
  have hdsL := h.dsL
  have hdsl := h.dsl
  have hdn6 := h.dn6
  have hin6 := h.in6
  clear h
  obtain ⟨nm, PA, IA, DA, KA, QA, OA, RA, GA, VA, pn, pc, iN, ic, dn, dc, kn, kc, qn, qc, n, oc, rn, rc, gn, gc, vn, vc⟩ := f
  dsimp only [Fm.v, Fm.cells] at *
  have kv := (Below.refl w.heap.size w).alloc (Nat.le_refl _) (.cells #[.string nm, .slice PA pn pc, .slice IA iN ic, .slice DA dn dc, .slice KA kn kc, .slice QA qn qc, .slice OA n oc, .slice RA rn rc, .slice GA gn gc, .slice VA vn vc] 40)
  have P0 := Lib.hid (Cells.new w #[.string nm, .slice PA pn pc, .slice IA iN ic, .slice DA dn dc, .slice KA kn kc, .slice QA qn qc, .slice OA n oc, .slice RA rn rc, .slice GA gn gc, .slice VA vn vc] 40)
  obtain ⟨w0, hw0⟩ : ∃ u, w.alloc (.cells #[.string nm, .slice PA pn pc, .slice IA iN ic, .slice DA dn dc, .slice KA kn kc, .slice QA qn qc, .slice OA n oc, .slice RA rn rc, .slice GA gn gc, .slice VA vn vc] 40) = u := ⟨_, rfl⟩
  rw [hw0] at kv P0
  have HC := Lib.hid HC
  have HO := Lib.hid HO
  have OL := Lib.hid (hosL.keep kv)
  have RL := Lib.hid (hrsL.keep kv)
  have GL := Lib.hid (hgsL.keep kv)
  have VL := Lib.hid (hvsL.keep kv)
  have DL := Lib.hid (hdsL.keep kv)
  have Ol := Lib.hid hosl
  have Rl := Lib.hid hrsl
  have Gl := Lib.hid hgsl
  have Vl := Lib.hid hvsl
  have On := Lib.hid hosn
  have Oo := Lib.hid hoso
  have Rn := Lib.hid hrsn
  have Rd := Lib.hid hrsd
  have Gn := Lib.hid hgsn
  have Vn := Lib.hid hvsn
  have Kv := Lib.hid kv
  have u1 : decide ((12 : Int) < (n : Int)) = false := decide_eq_false (by omega)
  have u2 : decide ((48 : Int) < (rn : Int)) = false := decide_eq_false (by omega)
  have u3 : decide ((48 : Int) < (gn : Int)) = false := decide_eq_false (by omega)
  have u4 : decide ((48 : Int) < (vn : Int)) = false := decide_eq_false (by omega)
  have u5 : decide (12 < n) = false := decide_eq_false (by omega)
  have u6 : decide (48 < rn) = false := decide_eq_false (by omega)
  have u7 : decide (48 < gn) = false := decide_eq_false (by omega)
  have u8 : decide (48 < vn) = false := decide_eq_false (by omega)
  clear hosL hosl hosn hoso hrsL hrsl hrsn hrsd hgsL hgsl hgsn hvsL hvsl hvsn hdsL hdsl kv
  have c0 := P0.out.at_ 0
  have c1 := P0.out.at_ 1
  have c2 := P0.out.at_ 2
  have c3 := P0.out.at_ 3
  have c4 := P0.out.at_ 4
  have c5 := P0.out.at_ 5
  have c6 := P0.out.at_ 6
  have c7 := P0.out.at_ 7
  have c8 := P0.out.at_ 8
  have c9 := P0.out.at_ 9
  simp only [List.getElem?_cons_zero, List.getElem?_cons_succ] at c0 c1 c2 c3 c4 c5 c6 c7 c8 c9
  go_enter Try.func38, Try.ntmps38
  go_wp2_with fail
  clear c0 c1 c2 c3 c4 c5 c6 c7 c8 c9
  try rw [hw0]
  go_loopw [3, 4, 41] (fun _ _ i wr => ∃ j : Nat, i = .int .i64 (j : Nat) ∧ j ≤ n ∧ Below w0.heap.size w0 wr) (fun _ _ i _ => n - (intOf i).toNat)
  case atStart => exact ⟨0, rfl, Nat.zero_le _, Below.refl _ _⟩
  case round =>
    obtain ⟨j, rfl, hj, hb⟩ := hrel
    have B1 := Lib.hid hb
    have P1 := Lib.hid (P0.out.keep hb)
    clear hb
    by_cases hlt : j < n
    · have O1 := OL.out.keep B1.out
      obtain ⟨s, bb, o, hs, rfl, _, cs⟩ := O1.at_ (k := j) (by rw [Ol.out]; exact hlt)
      have Hlt := Lib.hid hlt
      have HI := Lib.hid (fun w' => is_any s w' (On.out s (List.mem_of_getElem? hs)))
      have c6 := P1.out.at_ 6
      simp only [List.getElem?_cons_zero, List.getElem?_cons_succ] at c6
      cases j with
      | zero =>
        simp only [Nat.add_zero] at cs
        clear O1 hs
        go_wp2_with fail
        refine (HI.out _).mono ?_
        rintro e w1 ⟨rfl, rfl⟩
        go_wp2_with fail
        go_roundw
        case rel => exact ⟨1, by go_num, Hlt.out, B1.out⟩
        case measure => simp [intOf]; have := Hlt.out; omega
      | succ i =>
        obtain ⟨s', bb', o', hs', hA, _, cs'⟩ := O1.at_ (k := i) (by rw [Ol.out]; omega)
        injection hA with hA
        injection hA with h1 h2
        subst h1 h2
        have hle := Oo.out i s' s hs' hs
        have hle2 : (!Op.bytesLess s'.toList s.toList) = false := by rw [hle]; rfl
        have d0' : wr.cell? ⟨bb, o + (i + 1 - 1), none⟩ = some (.string s') := cs'
        have ew : IntKind.i64.wrap (((i + 1 : Nat) : Int) - 1) = ((i + 1 - 1 : Nat) : Int) := by rw [show ((i + 1 : Nat) : Int) - 1 = ((i + 1 - 1 : Nat) : Int) by omega]; exact IntWalk.i64_in _ (by omega)
        have ei : (((i : Nat) : Int) + 1) - 1 = ((i + 1 - 1 : Nat) : Int) := by omega
        have ii : ((i + 1 - 1 : Nat) : Int) < (n : Int) := by omega
        have tj : decide ((0 : Int) < ((i + 1 : Nat) : Int)) = true := decide_eq_true (by omega)
        clear O1 hs hs' cs'
        obtain ⟨j, hjj⟩ : ∃ j, i + 1 = j := ⟨_, rfl⟩
        have hj0 : 0 < j := by omega
        have tj2 : decide (0 < j) = true := decide_eq_true hj0
        rw [hjj] at d0' ew ei ii tj cs
        try rw [hjj]
        have Hlt2 := Lib.hid (show j < n by have := Hlt.out; omega)
        go_wp2_with fail
        refine (HI.out _).mono ?_
        rintro e w1 ⟨rfl, rfl⟩
        go_wp2_with fail
        go_roundw
        case rel => exact ⟨j + 1, by go_num, Hlt2.out, B1.out⟩
        case measure => simp [intOf]; have := Hlt2.out; omega
    · obtain ⟨wa, rfl⟩ : ∃ wa : World, wa = wr := ⟨_, rfl⟩
      have c7 := P1.out.at_ 7
      simp only [List.getElem?_cons_zero, List.getElem?_cons_succ] at c7
      have mk := World.ownsMap_made wa Try.prog 9 (plainElem (H := Unit) Try.prog 4)
      have kb := (Below.refl wa.heap.size wa).alloc (Nat.le_refl _) (.map #[] 0)
      have P2 := Lib.hid (P1.out.keep kb)
      have B2 := Lib.hid (below_on B1.out kb)
      have c7 := P2.out.at_ 7
      simp only [List.getElem?_cons_zero, List.getElem?_cons_succ] at c7
      obtain ⟨bm, hbm⟩ : ∃ p, wa.heap.size = p := ⟨_, rfl⟩
      have hbm0 := Lib.hid (show w0.heap.size ≤ bm by have := B1.out.size; omega)
      obtain ⟨wm, hwm⟩ : ∃ u, wa.alloc (.map #[] 0) = u := ⟨_, rfl⟩
      rw [hwm] at mk P2 B2 c7
      rw [hbm] at mk
      have Mk := Lib.hid mk
      clear mk kb
      have hbm1 := Lib.hid (show bm < wm.heap.size by rw [← hwm, ← hbm]; simp)
      go_wp2_with fail
      clear hwm hbm hlt hj
      go_loopw [7, 8, 9, 66] (fun _ _ _ i wr => ∃ j : Nat, i = .int .i64 (j : Nat) ∧ j ≤ rn ∧ wr.ownsMap Try.prog 9 (plainElem Try.prog 4) bm j (namesD ((rs.map (·.1)).take j)) ∧ Below w0.heap.size w0 wr ∧ wm.heap.size ≤ wr.heap.size) (fun _ _ _ i _ => rn - (intOf i).toNat)
      case atStart => exact ⟨0, rfl, Nat.zero_le _, Mk.out, B2.out, Nat.le_refl _⟩
      case round =>
        obtain ⟨j, rfl, hj, hM, hb, hsz⟩ := hrel
        have B3 := Lib.hid hb
        have M3 := Lib.hid hM
        have Hsz := Lib.hid hsz
        clear hb hM hsz c7
        by_cases hlt : j < rn
        · obtain ⟨r, bb, o, A', d, hr, rfl, hbw, c0, c1, hl⟩ := RL.out.at_ (k := j) (by rw [Rl.out]; exact hlt)
          have c0 := (B3.out.cell (p := ⟨bb, o + j * 2, none⟩) hbw).trans c0
          have c1 := (B3.out.cell (p := ⟨bb, o + j * 2 + 1, none⟩) hbw).trans c1
          obtain ⟨hn1, hn2, hn3⟩ := Rn.out r (List.mem_of_getElem? hr)
          have hnn : (rs.map (·.1))[j]? = some r.1 := by rw [List.getElem?_map, hr]; rfl
          have hnot : r.1 ∉ (rs.map (·.1)).take j := nodup_at Rd.out hnn
          have Htk := Lib.hid (show (rs.map (·.1)).take (j + 1) = (rs.map (·.1)).take j ++ [r.1] by rw [List.take_add_one, hnn]; rfl)
          have Hlt := Lib.hid hlt
          have Hl := Lib.hid hl
          obtain ⟨nr, hnr⟩ : ∃ q, r.1 = q := ⟨_, rfl⟩
          obtain ⟨lr, hlr⟩ : ∃ q, r.2 = q := ⟨_, rfl⟩
          rw [hnr] at c0 hn1 hnot Htk
          rw [hlr] at c1 hn2 hn3 Hl
          obtain ⟨ln, hln⟩ : ∃ q, lr.length = q := ⟨_, rfl⟩
          have Hln := Lib.hid hln
          rw [hln] at c1 hn2
          have Hn3 := Lib.hid hn3
          have P7 := Lib.hid (Cells.new wr #[.string nr, .slice A' ln d] 76)
          have kx := (Below.refl wr.heap.size wr).alloc (Nat.le_refl _) (.cells #[.string nr, .slice A' ln d] 76)
          have B4 := Lib.hid (below_on B3.out kx)
          have M4 := M3.out.alloc (.cells #[.string nr, .slice A' ln d] 76)
          have hs4 : (wr.alloc (.cells #[.string nr, .slice A' ln d] 76)).heap.size = wr.heap.size + 1 := by simp
          obtain ⟨w4, hw4⟩ : ∃ u, wr.alloc (.cells #[.string nr, .slice A' ln d] 76) = u := ⟨_, rfl⟩
          obtain ⟨p4, hp4⟩ : ∃ q, wr.heap.size = q := ⟨_, rfl⟩
          rw [hw4] at P7 B4 M4 hs4
          rw [hp4] at P7 hs4
          have HA := Lib.hid (add_any bm j _ nr w4 M4 (by omega) hn1 hnot)
          have g0 := P7.out.at_ 0
          simp only [List.getElem?_cons_zero] at g0
          have hne := Lib.hid (show p4 ≠ bm by have := Hsz.out; have := hbm1.out; omega)
          have hle4 := Lib.hid (show w0.heap.size ≤ w4.heap.size from B4.out.size)
          have hs44 := Lib.hid hs4
          have hps := Lib.hid (show wm.heap.size ≤ p4 by rw [← hp4]; exact Hsz.out)
          clear hr hl hnn hnot hn1 hn3 hnr hlr hln kx M4 hlt hj
          go_wp2_with fail
          refine HA.out.mono ?_
          rintro e w5 ⟨rfl, hM5, hg5⟩
          have M5 := Lib.hid hM5
          have B5 := Lib.hid (B4.out.grown hg5 hle4.out (fun k e => by injection e with e; rw [← e]; exact hbm0.out))
          have P5 := Lib.hid (P7.out.grown hg5 hne.out)
          have hsz5 := Lib.hid hg5.size
          have Q5 := Lib.hid (P0.out.keep B5.out)
          have HCx := HC.out A' ln d (lc lr) w5 (Hl.out.keep B5.out) (by rw [lc_len]; exact Hln.out) hn2
          rw [Hn3.out] at HCx
          have HCx := Lib.hid HCx
          have e1 := P5.out.at_ 1
          simp only [List.getElem?_cons_zero, List.getElem?_cons_succ] at e1
          have q0 := Q5.out.at_ 0
          have q1 := Q5.out.at_ 1
          have q2 := Q5.out.at_ 2
          have q3 := Q5.out.at_ 3
          have q4 := Q5.out.at_ 4
          have q5 := Q5.out.at_ 5
          have q6 := Q5.out.at_ 6
          have q7 := Q5.out.at_ 7
          have q8 := Q5.out.at_ 8
          have q9 := Q5.out.at_ 9
          simp only [List.getElem?_cons_zero, List.getElem?_cons_succ] at q0 q1 q2 q3 q4 q5 q6 q7 q8 q9
          clear hM5 hg5 c0 c1 g0 hw4 hp4 hs4
          go_wp2_with fail
          refine HCx.out.mono ?_
          rintro e w6 ⟨rfl, hb6⟩
          have B6 := Lib.hid (below_on B5.out hb6)
          have M6 := Lib.hid (M5.out.kept (grown_of hb6) (by simp))
          have hsz6 := Lib.hid hb6.size
          clear hb6
          go_wp2_with fail
          go_roundw
          case rel => exact ⟨j + 1, by go_num, Hlt.out, by rw [Htk.out]; exact M6.out, B6.out, by have := hsz6.out; have := hsz5.out; have := hs44.out; have := hps.out; omega⟩
          case measure => simp [intOf]; have := Hlt.out; omega
        · obtain ⟨wb, rfl⟩ : ∃ wb : World, wb = wr := ⟨_, rfl⟩
          have P3 := Lib.hid (P0.out.keep B3.out)
          have c8 := P3.out.at_ 8
          simp only [List.getElem?_cons_zero, List.getElem?_cons_succ] at c8
          clear M3 Hsz Mk
          go_wp2_with fail
          clear hlt hj
          go_loopw [11, 12, 88] (fun _ _ i wr => ∃ j : Nat, i = .int .i64 (j : Nat) ∧ j ≤ gn ∧ Below w0.heap.size w0 wr) (fun _ _ i _ => gn - (intOf i).toNat)
          case atStart => exact ⟨0, rfl, Nat.zero_le _, B3.out⟩
          case round =>
            obtain ⟨j, rfl, hj, hb⟩ := hrel
            have B4 := Lib.hid hb
            clear hb c8
            by_cases hlt : j < gn
            · obtain ⟨g, bb, o, A', d, hr, rfl, hbw, c0, c1, hl⟩ := GL.out.at_ (k := j) (by rw [Gl.out]; exact hlt)
              have c0 := (B4.out.cell (p := ⟨bb, o + j * 2, none⟩) hbw).trans c0
              have c1 := (B4.out.cell (p := ⟨bb, o + j * 2 + 1, none⟩) hbw).trans c1
              obtain ⟨hn1, hn2, hn3⟩ := Gn.out g (List.mem_of_getElem? hr)
              have Hlt := Lib.hid hlt
              have Hl := Lib.hid hl
              obtain ⟨gi, hgi⟩ : ∃ q, g.1 = q := ⟨_, rfl⟩
              obtain ⟨lr, hlr⟩ : ∃ q, g.2 = q := ⟨_, rfl⟩
              rw [hgi] at c0 hn1
              rw [hlr] at c1 hn2 hn3 Hl
              obtain ⟨ln, hln⟩ : ∃ q, lr.length = q := ⟨_, rfl⟩
              have Hln := Lib.hid hln
              rw [hln] at c1 hn2
              have Hn3 := Lib.hid hn3
              have P7 := Lib.hid (Cells.new wr #[.int .i64 (gi : Nat), .slice A' ln d] 88)
              have kx := (Below.refl wr.heap.size wr).alloc (Nat.le_refl _) (.cells #[.int .i64 (gi : Nat), .slice A' ln d] 88)
              have B5 := Lib.hid (below_on B4.out kx)
              have t0 : decide ((gi : Int) < 0) = false := decide_eq_false (by omega)
              have t1 : decide ((iN : Int) ≤ (gi : Int)) = false := decide_eq_false (by omega)
              have t2 : decide (iN ≤ gi) = false := decide_eq_false (by omega)
              obtain ⟨w4, hw4⟩ : ∃ u, wr.alloc (.cells #[.int .i64 (gi : Nat), .slice A' ln d] 88) = u := ⟨_, rfl⟩
              obtain ⟨p4, hp4⟩ : ∃ q, wr.heap.size = q := ⟨_, rfl⟩
              rw [hw4] at P7 B5
              rw [hp4] at P7
              have Q5 := Lib.hid (P0.out.keep B5.out)
              have HCx := HC.out A' ln d (lc lr) w4 (Hl.out.keep B5.out) (by rw [lc_len]; exact Hln.out) hn2
              rw [Hn3.out] at HCx
              have HCx := Lib.hid HCx
              have e0 := P7.out.at_ 0
              have e1 := P7.out.at_ 1
              simp only [List.getElem?_cons_zero, List.getElem?_cons_succ] at e0 e1
              have q0 := Q5.out.at_ 0
              have q1 := Q5.out.at_ 1
              have q2 := Q5.out.at_ 2
              have q3 := Q5.out.at_ 3
              have q4 := Q5.out.at_ 4
              have q5 := Q5.out.at_ 5
              have q6 := Q5.out.at_ 6
              have q7 := Q5.out.at_ 7
              have q8 := Q5.out.at_ 8
              have q9 := Q5.out.at_ 9
              simp only [List.getElem?_cons_zero, List.getElem?_cons_succ] at q0 q1 q2 q3 q4 q5 q6 q7 q8 q9
              clear hr hl hn1 hn3 hgi hlr hln kx hlt hj
              go_wp2_with fail
              refine HCx.out.mono ?_
              rintro e w6 ⟨rfl, hb6⟩
              have B6 := Lib.hid (below_on B5.out hb6)
              clear hb6
              go_wp2_with fail
              go_roundw
              case rel => exact ⟨j + 1, by go_num, Hlt.out, B6.out⟩
              case measure => simp [intOf]; have := Hlt.out; omega
            · obtain ⟨wc, rfl⟩ : ∃ wc : World, wc = wr := ⟨_, rfl⟩
              have P4 := Lib.hid (P0.out.keep B4.out)
              have c9 := P4.out.at_ 9
              simp only [List.getElem?_cons_zero, List.getElem?_cons_succ] at c9
              go_wp2_with fail
              clear hlt hj
              go_loopw [14, 15, 116] (fun _ _ i wr => ∃ j : Nat, i = .int .i64 (j : Nat) ∧ j ≤ vn ∧ Below w0.heap.size w0 wr) (fun _ _ i _ => vn - (intOf i).toNat)
              case atStart => exact ⟨0, rfl, Nat.zero_le _, B4.out⟩
              case round =>
                obtain ⟨j, rfl, hj, hb⟩ := hrel
                have B5 := Lib.hid hb
                clear hb c9
                by_cases hlt : j < vn
                · obtain ⟨v, bb, o, A', d, hr, rfl, hbw, c0, c1, c2, c3, c4, c5, hl⟩ := VL.out.at_ (k := j) (by rw [Vl.out]; exact hlt)
                  have c0 := (B5.out.cell (p := ⟨bb, o + j * 6, none⟩) hbw).trans c0
                  have c1 := (B5.out.cell (p := ⟨bb, o + j * 6 + 1, none⟩) hbw).trans c1
                  have c2 := (B5.out.cell (p := ⟨bb, o + j * 6 + 2, none⟩) hbw).trans c2
                  have c3 := (B5.out.cell (p := ⟨bb, o + j * 6 + 3, none⟩) hbw).trans c3
                  have c4 := (B5.out.cell (p := ⟨bb, o + j * 6 + 4, none⟩) hbw).trans c4
                  have c5 := (B5.out.cell (p := ⟨bb, o + j * 6 + 5, none⟩) hbw).trans c5
                  obtain ⟨hn2, hn3, hn4⟩ := Vn.out v (List.mem_of_getElem? hr)
                  have Hlt := Lib.hid hlt
                  have Hl := Lib.hid hl
                  obtain ⟨lr, hlr⟩ : ∃ q, v.all = q := ⟨_, rfl⟩
                  obtain ⟨vd, hvd⟩ : ∃ q, v.dim = q := ⟨_, rfl⟩
                  obtain ⟨vm, hvm⟩ : ∃ q, v.nw.nm = q := ⟨_, rfl⟩
                  obtain ⟨v1, hv1⟩ : ∃ q, v.nw.no = q := ⟨_, rfl⟩
                  obtain ⟨v2, hv2⟩ : ∃ q, v.nw.lo = q := ⟨_, rfl⟩
                  obtain ⟨v3, hv3⟩ : ∃ q, v.nw.up = q := ⟨_, rfl⟩
                  rw [hlr] at c0 hn2 hn3 Hl
                  rw [hvd] at c1 hn4
                  rw [hvm] at c2 hn4
                  rw [hv1] at c3
                  rw [hv2] at c4
                  rw [hv3] at c5
                  obtain ⟨ln, hln⟩ : ∃ q, lr.length = q := ⟨_, rfl⟩
                  have Hln := Lib.hid hln
                  rw [hln] at c0 hn2
                  have P7 := Lib.hid (Cells.new wr #[.slice A' ln d, .int .i64 (vd : Nat), .string vm, .int .i64 v1, .int .i64 v2, .int .i64 v3] 92)
                  have kx := (Below.refl wr.heap.size wr).alloc (Nat.le_refl _) (.cells #[.slice A' ln d, .int .i64 (vd : Nat), .string vm, .int .i64 v1, .int .i64 v2, .int .i64 v3] 92)
                  have B6 := Lib.hid (below_on B5.out kx)
                  obtain ⟨w4, hw4⟩ : ∃ u, wr.alloc (.cells #[.slice A' ln d, .int .i64 (vd : Nat), .string vm, .int .i64 v1, .int .i64 v2, .int .i64 v3] 92) = u := ⟨_, rfl⟩
                  obtain ⟨p4, hp4⟩ : ∃ q, wr.heap.size = q := ⟨_, rfl⟩
                  rw [hw4] at P7 B6
                  rw [hp4] at P7
                  have Q5 := Lib.hid (P0.out.keep B6.out)
                  have HCx := Lib.hid (HO.out A' ln d lr vd vm v1 v2 v3 w4 (Hl.out.keep B6.out) Hln.out hn2 hn3 (DL.out.keep B6.out) hn4)
                  have e0 := P7.out.at_ 0
                  have e1 := P7.out.at_ 1
                  have e2 := P7.out.at_ 2
                  have e3 := P7.out.at_ 3
                  have e4 := P7.out.at_ 4
                  have e5 := P7.out.at_ 5
                  simp only [List.getElem?_cons_zero, List.getElem?_cons_succ] at e0 e1 e2 e3 e4 e5
                  have q0 := Q5.out.at_ 0
                  have q1 := Q5.out.at_ 1
                  have q2 := Q5.out.at_ 2
                  have q3 := Q5.out.at_ 3
                  have q4 := Q5.out.at_ 4
                  have q5 := Q5.out.at_ 5
                  have q6 := Q5.out.at_ 6
                  have q7 := Q5.out.at_ 7
                  have q8 := Q5.out.at_ 8
                  have q9 := Q5.out.at_ 9
                  simp only [List.getElem?_cons_zero, List.getElem?_cons_succ] at q0 q1 q2 q3 q4 q5 q6 q7 q8 q9
                  clear hr hl hn3 hn4 hlr hvd hvm hv1 hv2 hv3 hln kx hlt hj
                  go_wp2_with fail
                  refine HCx.out.mono ?_
                  rintro e w6 ⟨rfl, hb6⟩
                  have B7 := Lib.hid (below_on B6.out hb6)
                  clear hb6
                  go_wp2_with fail
                  go_roundw
                  case rel => exact ⟨j + 1, by go_num, Hlt.out, B7.out⟩
                  case measure => simp [intOf]; have := Hlt.out; omega
                · go_wp2_with fail
                  go_ret
                  exact ⟨rfl, below_on Kv.out B5.out⟩
end Go.Proofs.Ytmfmpkihmadjmaa
