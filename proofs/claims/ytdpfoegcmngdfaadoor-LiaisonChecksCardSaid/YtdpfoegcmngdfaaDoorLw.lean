/- Liaisons: a group is checked. -/
import Derived.Test.YtdpfoegcmngdfaaDoorLv
namespace Go.Proofs.YtdpfoegcmngdfaaDoor
open Go.RowKit
def grpE (n : Int) (es : List Grp) (g : Grp) : Int :=
  if nameT g.1 = false then 11 else if es.any (fun e => e.1.toList == g.1.toList) = true then 9 else if g.2.length < 2 then 7 else if memE n g.2 ≠ 0 then memE n g.2 else
  if es.any (fun e => ofI e.2 == ofI g.2) = true then 9 else if es.any (fun e => crossB (ofI e.2) (ofI g.2)) = true then 17 else 0
theorem mem_ok {n : Int} {l : List Int} (h : memE n l = 0) : ∀ x ∈ l, 0 ≤ x ∧ x < n := fun x hx => by
  obtain ⟨k, hk, rfl⟩ := List.mem_iff_getElem.1 hx
  have h1 := firstE_ok h k hk
  unfold memAt at h1
  have e : l.getD k 0 = l[k] := by rw [List.getD_eq_getElem?_getD, List.getElem?_eq_getElem hk]; rfl
  rw [e] at h1
  split at h1
  · omega
  · omega
set_option maxRecDepth 100000 in
set_option maxHeartbeats 8000000 in
theorem checkGroup_any (n : Int) (A : Option Addr) (m c : Nat) (es : List Grp) (nm : ByteArray) (P : Option Addr) (d : Nat) (l : List Int) (w : World) (h : GL w A es) (hlen : es.length = m) (hm : m ≤ 1000000) (hin : ∀ e ∈ es, InG e.2) (hs : nm.size ≤ 1000) (hp : IL w P l) (hl : l.length ≤ 1000000) (hn : n ≤ 64) :
    Calls Tryd.prog 63 #[.slice A m c, .agg #[.string nm, .slice P l.length d], .int .i64 n] w fun e w' => e = .returned (.int .i64 (grpE n es (nm, l))) ∧ Below w.heap.size w w' := by
  have kv := (Below.refl w.heap.size w).alloc (Nat.le_refl _) (.cells #[.string nm, .slice P l.length d] 68)
  have P0 := Cells.new w #[.string nm, .slice P l.length d] 68
  have g0 := P0.at_ 0
  have g1 := P0.at_ 1
  simp only [List.getElem?_cons_zero, List.getElem?_cons_succ] at g0 g1
  have h1 := h.keep kv
  have hp1 := hp.keep kv
  obtain ⟨wm, hwm⟩ : ∃ u, w.alloc (.cells #[.string nm, .slice P l.length d] 68) = u := ⟨_, rfl⟩
  have hz : w.heap.size < wm.heap.size := by rw [← hwm]; simp
  have Hwm := Lib.hid hwm
  rw [hwm] at g0 g1 h1 hp1 kv
  have HI := Lib.hid (is_any nm wm hs)
  have HC1 := grp1_con A m c es (fun e => e.1.toList == nm.toList) (.pointer (some ⟨w.heap.size, 0, none⟩)) wm h1 hlen (by omega) (fun w' e A' d' he hb hil => gc1_any w.heap.size nm e.1 A' e.2.length d' w' ((hb.cell (p := ⟨w.heap.size, 0, none⟩) hz).trans g0))
  have HM := Lib.hid (fun w' (hb : Below wm.heap.size wm w') => checkMembers_any n P d l w' (hp1.keep hb) hl)
  have HO := Lib.hid (fun w' (hb : Below wm.heap.size wm w') (hk : InG l) => ofI_any P d l w' (hp1.keep hb) hk)
  have HC2 := Lib.hid (fun w' (hb : Below wm.heap.size wm w') p s (hc : w'.cell? ⟨p, 0, none⟩ = some (.int .u64 (s : Nat))) => grp2_con A m c es (fun e => ofI e.2 == s) (.pointer (some ⟨p, 0, none⟩)) w' (h1.keep hb) hlen (by omega) (fun w2 e A' d' he hb2 hil => gc2_any p s e.1 A' d' e.2 w2 ((hb2.cell (p := ⟨p, 0, none⟩) (World.block_lt_of_cell? _ _ hc)).trans hc) hil (hin e he)))
  have HC3 := Lib.hid (fun w' (hb : Below wm.heap.size wm w') p s (hc : w'.cell? ⟨p, 0, none⟩ = some (.int .u64 (s : Nat))) (hs : s < 18446744073709551616) => grp3_con A m c es (fun e => crossB (ofI e.2) s) (.pointer (some ⟨p, 0, none⟩)) w' (h1.keep hb) hlen (by omega) (fun w2 e A' d' he hb2 hil => gc3_any p s e.1 A' d' e.2 w2 ((hb2.cell (p := ⟨p, 0, none⟩) (World.block_lt_of_cell? _ _ hc)).trans hc) hil (hin e he) hs))
  have HS := Lib.hid (fun w' (hb : Below wm.heap.size wm w') => And.intro ((hb.cell (p := ⟨w.heap.size, 0, none⟩) hz).trans g0) ((hb.cell (p := ⟨w.heap.size, 1, none⟩) hz).trans g1))
  have Hin := Lib.hid (fun hk : memE n l = 0 => (⟨fun x hx => ⟨(mem_ok hk x hx).1, by have := (mem_ok hk x hx).2; omega⟩, hl⟩ : InG l))
  have HG := Lib.hid (show grpE n es (nm, l) = if nameT nm = false then 11 else if es.any (fun e => e.1.toList == nm.toList) = true then 9 else if l.length < 2 then 7 else if memE n l ≠ 0 then memE n l else if es.any (fun e => ofI e.2 == ofI l) = true then 9 else if es.any (fun e => crossB (ofI e.2) (ofI l)) = true then 17 else 0 from rfl)
  obtain ⟨q1, hq1⟩ : ∃ q, nameT nm = q := ⟨_, rfl⟩
  obtain ⟨q2, hq2⟩ : ∃ q, es.any (fun e => e.1.toList == nm.toList) = q := ⟨_, rfl⟩
  rw [hq1] at HI HG
  rw [hq2] at HC1 HG
  have HC1 := Lib.hid HC1
  have kv := Lib.hid kv
  obtain ⟨G, hG⟩ : ∃ G, grpE n es (nm, l) = G := ⟨_, rfl⟩
  rw [hG] at HG ⊢
  clear h hlen hm hin hs hp hn P0 g0 g1 h1 hp1 hz hwm hq1 hq2 hG
  go_enter Tryd.func63, Tryd.ntmps63
  have s0 := (HS.out wm (Below.refl _ _)).1
  go_upto_region 1 with fail
  simp only [Hwm.out]
  go_wp2_with fail
  refine HI.out.mono ?_
  rintro e w1 ⟨rfl, rfl⟩
  cases q1
  · go_wp2_with fail
    go_ret
    exact ⟨ret_int (by rw [HG.out]; rfl), kv.out⟩
  go_wp2_with fail
  refine HC1.out.mono ?_
  rintro e w2 ⟨rfl, hb2⟩
  have B2 := Lib.hid hb2
  have K2 := Lib.hid (below_on kv.out hb2)
  clear hb2
  cases q2
  · have s1 := (HS.out w2 B2.out).2
    by_cases hlt : l.length < 2
    · have t0 : decide ((l.length : Int) < 2) = true := decide_eq_true (by omega)
      have t1 : decide (l.length < 2) = true := decide_eq_true (by omega)
      go_wp2_with fail
      go_ret
      exact ⟨ret_int (by rw [HG.out, if_pos hlt]; rfl), K2.out⟩
    · have t0 : decide ((l.length : Int) < 2) = false := decide_eq_false (by omega)
      have t1 : decide (l.length < 2) = false := decide_eq_false (by omega)
      have HMw := HM.out w2 B2.out
      have HOw := HO.out w2 B2.out
      rw [if_neg hlt] at HG
      by_cases hm0 : memE n l = 0
      · have HOw := Lib.hid (HOw (Hin.out hm0))
        rw [hm0] at HMw HG
        have HMw := Lib.hid HMw
        have hs64 := Lib.hid (ofI_lt (Hin.out hm0))
        obtain ⟨S, hS⟩ : ∃ S, ofI l = S := ⟨_, rfl⟩
        rw [hS] at HOw hs64 HG
        clear hm0 hS hlt
        have z2 : w2.heap.size ≤ w2.heap.size := Nat.le_refl _
        have C := Cells.new w2 #[.int .u64 (S : Nat)] 78
        have c0 := C.at_ 0
        simp only [List.getElem?_cons_zero] at c0
        have k3 := (Below.refl w2.heap.size w2).alloc (Nat.le_refl _) (.cells #[.int .u64 (S : Nat)] 78)
        have B3 := Lib.hid (below_on B2.out k3)
        have K3 := Lib.hid (below_on K2.out k3)
        have H2 := HC2.out _ B3.out w2.heap.size S c0
        obtain ⟨q3, hq3⟩ : ∃ q, es.any (fun e => ofI e.2 == S) = q := ⟨_, rfl⟩
        rw [hq3] at H2 HG
        have H2 := Lib.hid H2
        have Hc := Lib.hid c0
        clear hq3 C c0 k3
        go_wp2_with fail
        refine HMw.out.mono ?_
        rintro e w3 ⟨rfl, rfl⟩
        go_wp2_with fail
        refine HOw.out.mono ?_
        rintro e w3 ⟨rfl, rfl⟩
        go_wp2_with fail
        refine H2.out.mono ?_
        rintro e w4 ⟨rfl, hb4⟩
        have B4 := Lib.hid (below_on B3.out hb4)
        have K4 := Lib.hid (below_on K3.out hb4)
        have c4 := (hb4.cell (p := ⟨w2.heap.size, 0, none⟩) (by simp)).trans Hc.out
        clear hb4
        cases q3
        · have H3 := HC3.out _ B4.out w2.heap.size S c4 hs64.out
          obtain ⟨q4, hq4⟩ : ∃ q, es.any (fun e => crossB (ofI e.2) S) = q := ⟨_, rfl⟩
          rw [hq4] at H3 HG
          have H3 := Lib.hid H3
          clear hq4
          go_wp2_with fail
          refine H3.out.mono ?_
          rintro e w5 ⟨rfl, hb5⟩
          have K5 := Lib.hid (below_on K4.out hb5)
          clear hb5
          cases q4
          · go_wp2_with fail
            go_ret
            exact ⟨ret_int (by rw [HG.out]; rfl), K5.out⟩
          · go_wp2_with fail
            go_ret
            exact ⟨ret_int (by rw [HG.out]; rfl), K5.out⟩
        · go_wp2_with fail
          go_ret
          exact ⟨ret_int (by rw [HG.out]; rfl), K4.out⟩
      · rw [if_pos hm0] at HG
        obtain ⟨E, hE⟩ : ∃ E, memE n l = E := ⟨_, rfl⟩
        rw [hE] at HMw HG hm0
        have HMw := Lib.hid HMw
        have t1 : (E != 0) = true := by simpa using hm0
        clear hE HOw hm0 hlt
        go_wp2_with fail
        refine HMw.out.mono ?_
        rintro e w3 ⟨rfl, rfl⟩
        go_wp2_with fail
        go_ret
        exact ⟨ret_int (by rw [HG.out]; rfl), K2.out⟩
  · go_wp2_with fail
    go_ret
    exact ⟨ret_int (by rw [HG.out]; rfl), K2.out⟩
end Go.Proofs.YtdpfoegcmngdfaaDoor
