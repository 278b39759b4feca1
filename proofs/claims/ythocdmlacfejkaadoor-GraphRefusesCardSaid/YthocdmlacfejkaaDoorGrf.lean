/- The law GraphRefuses. -/
import Derived.Test.YthocdmlacfejkaaDoorRfs
import Derived.Test.YthocdmlacfejkaaDoorTiL
import Derived.Deep.DeepCutAuto
namespace Go.Proofs.YthocdmlacfejkaaDoor
open Go.RowKit
set_option maxRecDepth 100000 in
set_option maxHeartbeats 16000000 in
theorem grf_any (n : Int) (A : Option Addr) (m c : Nat) (es : List (Int × Int)) (L : Option Addr) (q d : Nat) (zl : List Int) (a b : Int) (w : World) (h : EL w A m es) (hil : IL w L zl ∧ zl.length = q) (hw : Good w) :
    Calls Tryd.prog 5 #[gV n A m c, .slice L q d, .agg #[.int .i64 a, .int .i64 b]] w fun e w' => e = .returned (.bool true) ∧ Below w.heap.size w w' := by
  obtain ⟨hil, hq⟩ := hil
  have kv := ((Below.refl w.heap.size w).alloc (Nat.le_refl _) (.cells #[.int .i64 n, .slice A m c] 26)).alloc (by simp) (.cells #[.int .i64 a, .int .i64 b] 55)
  have HG := Lib.hid (fun w' (hb : Below w.heap.size w w') => hw.below hb hw.size)
  have HK := Lib.hid (fun w' (hb : Below w.heap.size w w') => known_any w' (hw.below hb hw.size))
  have HE := Lib.hid (fun w' (hb : Below w.heap.size w w') => h.keep hb)
  have HI := Lib.hid (fun w' (hb : Below w.heap.size w w') => hil.keep hb)
  have G0 := Lib.hid ((Cells.new w #[.int .i64 n, .slice A m c] 26).keep ((Below.refl _ _).alloc (Nat.le_refl _) (.cells #[.int .i64 a, .int .i64 b] 55)))
  have D0 := Cells.new (w.alloc (.cells #[.int .i64 n, .slice A m c] 26)) #[.int .i64 a, .int .i64 b] 55
  simp only [World.size_alloc] at D0
  have D0 := Lib.hid D0
  have B0 := Lib.hid kv
  obtain ⟨ck, hck⟩ : ∃ ck, checkG n es = ck := ⟨_, rfl⟩
  obtain ⟨wN, hwN⟩ : ∃ x, wantN n es zl = x := ⟨_, rfl⟩
  have Hck := Lib.hid hck
  have HwN := Lib.hid hwN
  have Hq := Lib.hid hq
  clear h hw hil kv hck hwN
  go_enter Tryd.func5, Tryd.ntmps5
  go_wp2_with fail
  refine (HK.out _ B0.out).mono ?_
  rintro e w1 ⟨rfl, hb1⟩
  have G1 := Lib.hid (G0.out.keep hb1)
  have D1 := Lib.hid (D0.out.keep hb1)
  have B1 := Lib.hid (below_on B0.out hb1)
  have g0 := G1.out.at_ 0
  have g1 := G1.out.at_ 1
  simp only [List.getElem?_cons_zero, List.getElem?_cons_succ] at g0 g1
  clear hb1
  go_wp2_with fail
  refine (few_any n A m c w1).mono ?_
  rintro e w2 ⟨rfl, hb2⟩
  have G2 := Lib.hid (G1.out.keep hb2)
  have D2 := Lib.hid (D1.out.keep hb2)
  have B2 := Lib.hid (below_on B1.out hb2)
  clear hb2 g0 g1
  cases hf : fewG n m with
  | false =>
    clear hf
    go_wp2_with fail
    refine (HK.out _ B2.out).mono ?_
    rintro e w3 ⟨rfl, hb3⟩
    have B3 := Lib.hid (below_on B2.out hb3)
    clear hb3
    go_wp2_with fail
    go_ret
    exact ⟨rfl, B3.out⟩
  | true =>
    have hm : m ≤ 24 := by unfold fewG at hf; simp at hf; exact hf.1
    have hM := Lib.hid (show m ≤ 4611686018427387904 by omega)
    have hM2 := Lib.hid (show m ≤ 100000 by omega)
    clear hf hm
    by_cases hq8 : 8 < q
    · have tq : decide ((8 : Int) < (q : Int)) = true := decide_eq_true (by omega)
      clear hq8
      go_wp2_with fail
      refine (HK.out _ B2.out).mono ?_
      rintro e w3 ⟨rfl, hb3⟩
      have B3 := Lib.hid (below_on B2.out hb3)
      clear hb3
      go_wp2_with fail
      go_ret
      exact ⟨rfl, B3.out⟩
    · have tq : decide ((8 : Int) < (q : Int)) = false := decide_eq_false (by omega)
      have Hq8 := Lib.hid (show q ≤ 8 by omega)
      clear hq8
      have g0 := G2.out.at_ 0
      have g1 := G2.out.at_ 1
      simp only [List.getElem?_cons_zero, List.getElem?_cons_succ] at g0 g1
      go_wp2_with fail
      refine (plain_any n A m c es w2 (HE.out _ B2.out) hM2.out).mono ?_
      rintro e w3 ⟨P3, d3, rfl, hE3, hb3⟩
      have G3 := Lib.hid (G2.out.keep hb3)
      have D3 := Lib.hid (D2.out.keep hb3)
      have B3 := Lib.hid (below_on B2.out hb3)
      have E3 := Lib.hid (hE3)
      clear hb3 g0 g1 hE3
      have HC3 := refCheck_any n P3 m d3 es w3 E3.out hM.out
      rw [Hck.out] at HC3
      have HC3 := Lib.hid HC3
      go_wp2_with fail
      refine (HC3.out).mono ?_
      rintro e w4 ⟨rfl, hb4⟩
      have G4 := Lib.hid (G3.out.keep hb4)
      have D4 := Lib.hid (D3.out.keep hb4)
      have B4 := Lib.hid (below_on B3.out hb4)
      clear hb4
      go_upto_if 37 with fail
      go_cut [7] (fun s wx => s = .int .i64 wN ∧ Below w4.heap.size w4 wx)
      case first =>
        by_cases h0 : ck = 0
        · have t0 : (ck == 0) = true := by rw [beq_iff_eq]; exact h0
          have hn : 0 ≤ n := by
            have := Hck.out
            rw [h0] at this
            obtain ⟨k, _, rfl, _, _⟩ := fine_of this
            omega
          have hn64 : n ≤ 64 := by
            have := Hck.out
            rw [h0] at this
            obtain ⟨k, _, rfl, _, hf⟩ := fine_of this
            have := hf.n64
            omega
          obtain ⟨k, hk⟩ : ∃ k : Nat, n = k := ⟨n.toNat, by omega⟩
          have hwe : errN k zl = wN := by
            rw [← HwN.out, hk, wantN_ok zl (by rw [← hk, Hck.out]; exact h0)]
          have g0 := G4.out.at_ 0
          have g1 := G4.out.at_ 1
          simp only [List.getElem?_cons_zero, List.getElem?_cons_succ] at g0 g1
          have HPl := Lib.hid (plain_any n A m c es w4 (HE.out _ B4.out) hM2.out)
          have HN := fun P dd w' (hI : IL w' L zl) => refNodes_any k P m dd L d zl w' hI (by have := Hq8.out; have := Hq.out; omega) (by omega)
          rw [hwe, Hq.out, ← hk] at HN
          have HN := Lib.hid HN
          clear hk hwe h0
          go_wp2_with fail
          refine HPl.out.mono ?_
          rintro e w5 ⟨P5, d5, rfl, hE5, hb5⟩
          have B5 := Lib.hid (below_on B4.out hb5)
          have C5 := Lib.hid hb5
          clear hE5 hb5 g0 g1
          go_wp2_with fail
          refine (HN.out P5 d5 _ (HI.out _ B5.out)).mono ?_
          rintro e w6 ⟨rfl, hb6⟩
          have C6 := Lib.hid (below_on C5.out hb6)
          clear hb6
          go_wp2_with fail
          go_meet
          exact ⟨rfl, C6.out⟩
        · have t0 : (ck == 0) = false := by rw [beq_eq_false_iff_ne]; exact h0
          have hwe : ck = wN := by rw [← HwN.out, wantN_bad zl (by rw [Hck.out]; exact h0), Hck.out]
          clear h0
          go_wp2_with fail
          go_meet
          exact ⟨by rw [hwe], Below.refl _ _⟩
      case rest =>
        obtain ⟨rfl, hb⟩ := hcut
        obtain ⟨w5, rfl⟩ : ∃ u : World, u = wc := ⟨_, rfl⟩
        have G5 := Lib.hid (G4.out.keep hb)
        have D5 := Lib.hid (D4.out.keep hb)
        have B5 := Lib.hid (below_on B4.out hb)
        clear hb G0 G1 G2 G3 G4 D0 D1 D2 D3 D4 B0 B1 B2 B3 B4
        have HRc := fun P dd w' (hI : IL w' P zl) (hb : Below w.heap.size w w') => reachU n A m c es P dd zl w' (HE.out _ hb) hM.out hI (by have := Hq8.out; have := Hq.out; omega) (HG.out _ hb)
        have HCc := fun w' (hb : Below w.heap.size w w') => closedU n A m c es L d zl w' (HE.out _ hb) hM.out (HI.out _ hb) (by have := Hq8.out; have := Hq.out; omega)
        have HIc := fun w' (hb : Below w.heap.size w w') => inducedU n A m c es L d zl w' (HE.out _ hb) hM.out (HI.out _ hb) (by have := Hq8.out; have := Hq.out; omega)
        have HCl := fun w' (hb : Below w.heap.size w w') => cloneI_any L d zl w' (HI.out _ hb) (by have := Hq8.out; have := Hq.out; omega)
        rw [Hq.out, HwN.out] at HRc HCc HIc
        rw [Hq.out] at HCl
        unfold gV at HRc HCc HIc
        have HRc := Lib.hid HRc
        have HCc := Lib.hid HCc
        have HIc := Lib.hid HIc
        have HCl := Lib.hid HCl
        go_upto_region 6 with fail
        have HS := Lib.hid (fun w' (hb : Below w5.heap.size w5 w') => (⟨(G5.out.keep hb).at_ 0, (G5.out.keep hb).at_ 1⟩ : w'.cell? ⟨w.heap.size, 0, none⟩ = some (.int .i64 n) ∧ w'.cell? ⟨w.heap.size, 1, none⟩ = some (.slice A m c)))
        refine Till.begin 8 (fun w' => w'.cell? ⟨w.heap.size, 0, none⟩ = some (.int .i64 n) ∧ w'.cell? ⟨w.heap.size, 1, none⟩ = some (.slice A m c)) (by kernel_rfl) (HS.out _ (Below.refl _ _).drew) (fun hH => ?_)
        clear hH
        have HB := Lib.hid (Below.refl w5.heap.size w5).drew
        generalize w5.drew = v0 at HB ⊢
        try simp only [List.setIfInBounds_toArray, List.set_cons_zero, List.set_cons_succ]
        refine Till.tk 0 3 43 (.agg #[.int .i64 n, .slice A m c]) (HS.out _ HB.out) ?_
        try simp only [Act.put, List.setIfInBounds_toArray, List.set_cons_zero, List.set_cons_succ]
        refine Till.one (i := 1) (by kernel_rfl) rfl (fun K hK => ?_)
        go_simp
        refine hK.out _ _ (fun _ => HS.out _ HB.out) ?_
        clear hK K
        try simp only [List.setIfInBounds_toArray, List.set_cons_zero, List.set_cons_succ]
        refine Till.one (i := 2) (by kernel_rfl) rfl (fun K hK => ?_)
        go_simp
        refine (HCl.out _ (below_on B5.out HB.out)).mono ?_
        rintro e v1 ⟨Q1, e1, rfl, hI, g⟩
        replace HB := Lib.hid (below_on HB.out g)
        have I1 := Lib.hid hI
        clear hI
        clear g
        go_wp2_with fail
        refine hK.out _ _ (fun _ => HS.out _ HB.out) ?_
        clear hK K
        try simp only [List.setIfInBounds_toArray, List.set_cons_zero, List.set_cons_succ]
        refine Till.one (i := 3) (by kernel_rfl) rfl (fun K hK => ?_)
        go_simp
        refine (HRc.out Q1 e1 _ I1.out (below_on B5.out HB.out)).mono ?_
        rintro e v2 ⟨R2, r2, x2, rfl, hr, g⟩
        replace HB := Lib.hid (below_on HB.out g)
        have R2h := Lib.hid hr
        clear hr
        clear g
        go_wp2_with fail
        refine hK.out _ _ (fun _ => HS.out _ HB.out) ?_
        clear hK K
        try simp only [List.setIfInBounds_toArray, List.set_cons_zero, List.set_cons_succ]
        refine Till.one (i := 4) (by kernel_rfl) rfl (fun K hK => ?_)
        go_simp
        refine hK.out _ _ (fun _ => HS.out _ HB.out) ?_
        clear hK K
        try simp only [List.setIfInBounds_toArray, List.set_cons_zero, List.set_cons_succ]
        refine Till.tk 5 7 47 (.slice R2 r2 x2) (HS.out _ HB.out) ?_
        try simp only [Act.put, List.setIfInBounds_toArray, List.set_cons_zero, List.set_cons_succ]
        refine Till.tk 6 8 48 (.int .i64 wN) (HS.out _ HB.out) ?_
        try simp only [Act.put, List.setIfInBounds_toArray, List.set_cons_zero, List.set_cons_succ]
        refine Till.one (i := 7) (by kernel_rfl) rfl (fun K hK => ?_)
        go_simp
        refine hK.out _ _ (fun _ => HS.out _ HB.out) ?_
        clear hK K
        try simp only [List.setIfInBounds_toArray, List.set_cons_zero, List.set_cons_succ]
        refine Till.one (i := 8) (by kernel_rfl) rfl (fun K hK => ?_)
        go_simp
        refine hK.out _ _ (fun h => absurd h (by simp)) ?_
        clear hK K
        try simp only [List.setIfInBounds_toArray, List.set_cons_zero, List.set_cons_succ]
        refine Till.done (by kernel_rfl) ?_ _
        have G6 := Lib.hid (G5.out.keep HB.out)
        have D6 := Lib.hid (D5.out.keep HB.out)
        have B6 := Lib.hid (below_on B5.out HB.out)
        clear HB HS G5 D5 B5
        obtain ⟨w6, rfl⟩ : ∃ u : World, u = v2 := ⟨_, rfl⟩
        have g0 := G6.out.at_ 0
        have g1 := G6.out.at_ 1
        simp only [List.getElem?_cons_zero, List.getElem?_cons_succ] at g0 g1
        go_wp2_with fail
        refine (HCc.out _ B6.out).mono ?_
        rintro e w7 ⟨q7, rfl, hb7⟩
        have G7 := Lib.hid (G6.out.keep hb7)
        have D7 := Lib.hid (D6.out.keep hb7)
        have B7 := Lib.hid (below_on B6.out hb7)
        clear hb7 g0 g1 
        have g0 := G7.out.at_ 0
        have g1 := G7.out.at_ 1
        simp only [List.getElem?_cons_zero, List.getElem?_cons_succ] at g0 g1
        go_wp2_with fail
        refine (HIc.out _ B7.out).mono ?_
        rintro e w8 ⟨x8, R8, q8, c8, rfl, hr8, hb8⟩
        have R8h := Lib.hid hr8
        clear hr8
        have kx := (Below.refl w8.heap.size w8).alloc (Nat.le_refl _) (.cells #[.int .i64 x8, .slice R8 q8 c8] 26)
        have b8 := below_on hb8 kx
        have G8 := Lib.hid (G7.out.keep b8)
        have D8 := Lib.hid (D7.out.keep b8)
        have B8 := Lib.hid (below_on B7.out b8)
        have X8 := Lib.hid (Cells.new w8 #[.int .i64 x8, .slice R8 q8 c8] 26)
        clear hb8 kx b8 g0 g1 
        obtain ⟨w8', hw8⟩ : ∃ u, w8.alloc (.cells #[.int .i64 x8, .slice R8 q8 c8] 26) = u := ⟨_, rfl⟩
        obtain ⟨px, hpx⟩ : ∃ p, w8.heap.size = p := ⟨_, rfl⟩
        rw [hw8] at G8 D8 B8 X8
        rw [hpx] at X8
        go_upto_region 9 with fail
        try rw [hw8]
        try rw [hpx]
        clear hw8 hpx
        go_cut [89] (fun s wx => s = .bool false ∧ wx = w8')
        case first =>
          have x0 := X8.out.at_ 0
          have x1 := X8.out.at_ 1
          simp only [List.getElem?_cons_zero, List.getElem?_cons_succ] at x0 x1
          have tN : (wN != wN) = false := by simp
          by_cases h0 : wN = 0
          · have t0 : (wN != 0) = false := by simp [h0]
            clear h0
            go_wp2_with fail
            go_meet
            exact ⟨rfl, rfl⟩
          · have t0 : (wN != 0) = true := by simp [h0]
            obtain rfl := R2h.out h0
            obtain ⟨rfl, rfl⟩ := R8h.out h0
            clear h0
            go_wp2_with fail
            go_meet
            exact ⟨rfl, rfl⟩
        case rest =>
          obtain ⟨rfl, rfl⟩ := hcut
          clear X8 R2h R8h
          have g0 := G8.out.at_ 0
          have g1 := G8.out.at_ 1
          simp only [List.getElem?_cons_zero, List.getElem?_cons_succ] at g0 g1
          have HPl := Lib.hid (plain_any n A m c es wc (HE.out _ B8.out) hM2.out)
          go_wp2_with fail
          refine HPl.out.mono ?_
          rintro e w9 ⟨P9, d9, rfl, hE9, hb9⟩
          have G9 := Lib.hid (G8.out.keep hb9)
          have D9 := Lib.hid (D8.out.keep hb9)
          have B9 := Lib.hid (below_on B8.out hb9)
          have HC9 := refCheck_any n P9 m d9 es w9 hE9 hM.out
          rw [Hck.out] at HC9
          have HC9 := Lib.hid HC9
          clear hE9 hb9 g0 g1 HPl
          go_wp2_with fail
          refine HC9.out.mono ?_
          rintro e w10 ⟨rfl, hb10⟩
          have G10 := Lib.hid (G9.out.keep hb10)
          have D10 := Lib.hid (D9.out.keep hb10)
          have B10 := Lib.hid (below_on B9.out hb10)
          clear hb10 G8 G9 D8 D9 HC9
          have g0 := G10.out.at_ 0
          have g1 := G10.out.at_ 1
          have d0 := D10.out.at_ 0
          have d1 := D10.out.at_ 1
          simp only [List.getElem?_cons_zero, List.getElem?_cons_succ] at g0 g1 d0 d1
          obtain ⟨ob, hob⟩ : ∃ ob, (decide (ck = 0) && offE n a b) = ob := ⟨_, rfl⟩
          go_upto_region 12 with fail
          go_cut [118] (fun s wx => s = .bool ob ∧ wx = w10)
          case first =>
            by_cases h0 : ck = 0
            · have t0 : (ck == 0) = true := by rw [beq_iff_eq]; exact h0
              have u0 : decide (ck = 0) = true := decide_eq_true h0
              clear h0
              by_cases h1 : a < 0
              · have t1 : decide (a < 0) = true := decide_eq_true h1
                go_wp2_with fail
                go_meet
                exact ⟨by rw [← hob, u0]; unfold offE; simp [t1], rfl⟩
              · have t1 : decide (a < 0) = false := decide_eq_false h1
                by_cases h2 : n ≤ a
                · have t2 : decide (n ≤ a) = true := decide_eq_true h2
                  go_wp2_with fail
                  go_meet
                  exact ⟨by rw [← hob, u0]; unfold offE; simp [t1, t2], rfl⟩
                · have t2 : decide (n ≤ a) = false := decide_eq_false h2
                  by_cases h3 : b < 0
                  · have t3 : decide (b < 0) = true := decide_eq_true h3
                    go_wp2_with fail
                    go_meet
                    exact ⟨by rw [← hob, u0]; unfold offE; simp [t1, t2, t3], rfl⟩
                  · have t3 : decide (b < 0) = false := decide_eq_false h3
                    by_cases h4 : n ≤ b
                    · have t4 : decide (n ≤ b) = true := decide_eq_true h4
                      go_wp2_with fail
                      go_meet
                      exact ⟨by rw [← hob, u0]; unfold offE; simp [t1, t2, t3, t4], rfl⟩
                    · have t4 : decide (n ≤ b) = false := decide_eq_false h4
                      go_wp2_with fail
                      go_meet
                      exact ⟨by rw [← hob, u0]; unfold offE; simp [t1, t2, t3, t4], rfl⟩
            · have t0 : (ck == 0) = false := by rw [beq_eq_false_iff_ne]; exact h0
              have u0 : decide (ck = 0) = false := decide_eq_false h0
              clear h0
              go_wp2_with fail
              go_meet
              exact ⟨by rw [← hob, u0]; rfl, rfl⟩
          case rest =>
            obtain ⟨rfl, rfl⟩ := hcut
            have Hob := Lib.hid hob
            have HP := Lib.hid (pathU n A m c es a b wc (HE.out _ B10.out) hM.out (HG.out _ B10.out))
            cases ob with
            | true =>
              have h1 := Hob.out
              rw [Bool.and_eq_true, decide_eq_true_eq] at h1
              have hwp : wantP n es a b = 2 := by unfold wantP; rw [Hck.out, if_pos h1.1, h1.2]; rfl
              rw [hwp] at HP
              clear hob h1 hwp
              go_wp2_with fail
              refine HP.out.mono ?_
              rintro e w11 ⟨P11, q11, c11, x11, rfl, hx, _, hb11⟩
              obtain ⟨rfl, rfl⟩ := hx (by decide)
              have B11 := Lib.hid (below_on B10.out hb11)
              clear hb11 g0 g1 d0 d1 hx
              go_wp2_with fail
              go_ret
              exact ⟨rfl, B11.out⟩
            | false =>
              by_cases h0 : ck = 0
              · have t0 : (ck != 0) = false := by simp [h0]
                have h1 := Hob.out
                rw [decide_eq_true h0, Bool.true_and] at h1
                have hwp : wantP n es a b = 0 := by unfold wantP; rw [Hck.out, if_pos h0, h1]; rfl
                have HT := Lib.hid (fun w' (hb : Below w.heap.size w w') => nbU n A m c es a b w' (HE.out _ hb) (HG.out _ hb) hwp)
                rw [hwp] at HP
                clear hob h1 hwp h0
                go_wp2_with fail
                refine HP.out.mono ?_
                rintro e w11 ⟨P11, q11, c11, x11, rfl, _, hx, hb11⟩
                have hx := hx trivial
                have B11 := Lib.hid (below_on B10.out hb11)
                have G11 := Lib.hid (G10.out.keep hb11)
                have D11 := Lib.hid (D10.out.keep hb11)
                clear hb11 g0 g1 d0 d1
                have g0 := G11.out.at_ 0
                have g1 := G11.out.at_ 1
                have d0 := D11.out.at_ 0
                have d1 := D11.out.at_ 1
                simp only [List.getElem?_cons_zero, List.getElem?_cons_succ] at g0 g1 d0 d1
                have HT1 := Lib.hid (HT.out _ B11.out).1
                go_wp2_with fail
                refine HT1.out.mono ?_
                rintro e w12 ⟨P12, q12, c12, rfl, hb12⟩
                have B12 := Lib.hid (below_on B11.out hb12)
                have G12 := Lib.hid (G11.out.keep hb12)
                have D12 := Lib.hid (D11.out.keep hb12)
                clear hb12 g0 g1 d0 d1
                have g0 := G12.out.at_ 0
                have g1 := G12.out.at_ 1
                have d0 := D12.out.at_ 0
                have d1 := D12.out.at_ 1
                simp only [List.getElem?_cons_zero, List.getElem?_cons_succ] at g0 g1 d0 d1
                have HT2 := Lib.hid (HT.out _ B12.out).2
                go_wp2_with fail
                refine HT2.out.mono ?_
                rintro e w13 ⟨P13, q13, c13, rfl, hb13⟩
                have B13 := Lib.hid (below_on B12.out hb13)
                clear hb13 g0 g1 d0 d1
                rcases hx with rfl | rfl
                · go_wp2_with fail
                  go_ret
                  exact ⟨rfl, B13.out⟩
                · go_wp2_with fail
                  go_ret
                  exact ⟨rfl, B13.out⟩
              · have t0 : (ck != 0) = true := by simp [h0]
                have hwp : wantP n es a b = ck := by unfold wantP; rw [Hck.out, if_neg h0]
                rw [hwp] at HP
                have tk : (ck == ck) = true := by simp
                have Hn0 := Lib.hid h0
                clear hob hwp h0
                go_wp2_with fail
                refine HP.out.mono ?_
                rintro e w11 ⟨P11, q11, c11, x11, rfl, hx, _, hb11⟩
                obtain ⟨rfl, rfl⟩ := hx Hn0.out
                have B11 := Lib.hid (below_on B10.out hb11)
                clear hb11 g0 g1 d0 d1 hx
                go_wp2_with fail
                go_ret
                exact ⟨rfl, B11.out⟩
end Go.Proofs.YthocdmlacfejkaaDoor
