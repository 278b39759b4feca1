/- The law IntegerOrder: its walk. -/
import Derived.Test.YtegndbiglehacaaDoorLaw2
import Derived.Deep.RegionHeld3
import Derived.Deep.RegionWith
namespace Go.Proofs.YtegndbiglehacaaDoor
open Go.RowKit

theorem region_skip {P : Program} {md : Region.Mode} {ops : Array Oper} {Q : Exit → Act → World → Prop} {S : World → Prop} {i : Nat} {oi : Oper} {d : Option Tmp} {fuel : Nat} {listed : Array Bool} {a : Act} {w : World} (hi : ops[i]? = some oi) (hd : oi.dst = d)
    (hs : Region.noSelect ops = true) (hf : Region.free md ops listed i = true) (hr : (Region.ready md ops listed).contains i = true) (hQ : ∀ c a w, Q (.panic c) (a.put d undef) w → Q (.panic c) a w) (hw : Region.wanted oi (yielded ops a.tmps) = false) (hS : S w)
    (h : wpAnyH P md ops Q S fuel (listed.setIfInBounds i true) (a.put d undef) w) : wpAnyH P md ops Q S (fuel + 1) listed a w := by
  subst hd
  exact wpAnyH_take hi hs hf hr hQ (Or.inr ⟨hw, rfl⟩) hS h
theorem region_take {P : Program} {md : Region.Mode} {ops : Array Oper} {Q : Exit → Act → World → Prop} {S : World → Prop} {i : Nat} {oi : Oper} {d : Option Tmp} {v : Value} {fuel : Nat} {listed : Array Bool} {a : Act} {w : World} (hi : ops[i]? = some oi) (hd : oi.dst = d)
    (hs : Region.noSelect ops = true) (hf : Region.free md ops listed i = true) (hr : (Region.ready md ops listed).contains i = true) (hQ : ∀ c a w, Q (.panic c) (a.put d v) w → Q (.panic c) a w) (hw : Region.wanted oi (yielded ops a.tmps) = true) (hy : ∀ w, S w → (execOp a.eval oi).run P w = .ok (.value v) w) (hS : S w)
    (h : wpAnyH P md ops Q S fuel (listed.setIfInBounds i true) (a.put d v) w) : wpAnyH P md ops Q S (fuel + 1) listed a w := by
  subst hd
  exact wpAnyH_take hi hs hf hr hQ (Or.inl ⟨hw, hy⟩) hS h
/-- What stays while a statement of three variables goes on. -/
theorem three_call {wm wx w' : World} {p0 p1 p2 : Nat} {a0 a1 a2 z k l : Int} {P0 P1 P2 : Option Addr} (V0 : Hid (Var wm p0 a0 P0 z)) (V1 : Hid (Var wm p1 a1 P1 k)) (V2 : Hid (Var wm p2 a2 P2 l)) (h : wx.cell? ⟨p0, 0, none⟩ = some (.int .i64 a0) ∧ wx.cell? ⟨p0, 1, none⟩ = some (.pointer P0) ∧ wx.cell? ⟨p1, 0, none⟩ = some (.int .i64 a1) ∧ wx.cell? ⟨p1, 1, none⟩ = some (.pointer P1) ∧ wx.cell? ⟨p2, 0, none⟩ = some (.int .i64 a2) ∧ wx.cell? ⟨p2, 1, none⟩ = some (.pointer P2) ∧ Below wm.heap.size wm wx) (hb : Below wx.heap.size wx w') : w'.cell? ⟨p0, 0, none⟩ = some (.int .i64 a0) ∧ w'.cell? ⟨p0, 1, none⟩ = some (.pointer P0) ∧ w'.cell? ⟨p1, 0, none⟩ = some (.int .i64 a1) ∧ w'.cell? ⟨p1, 1, none⟩ = some (.pointer P1) ∧ w'.cell? ⟨p2, 0, none⟩ = some (.int .i64 a2) ∧ w'.cell? ⟨p2, 1, none⟩ = some (.pointer P2) ∧ Below wm.heap.size wm w' := by
  have hk := below_on h.2.2.2.2.2.2 hb
  exact ⟨(V0.out.keep hk).c0, (V0.out.keep hk).c1, (V1.out.keep hk).c0, (V1.out.keep hk).c1, (V2.out.keep hk).c0, (V2.out.keep hk).c1, hk⟩
theorem three_start {wm : World} {p0 p1 p2 : Nat} {a0 a1 a2 z k l : Int} {P0 P1 P2 : Option Addr} (V0 : Hid (Var wm p0 a0 P0 z)) (V1 : Hid (Var wm p1 a1 P1 k)) (V2 : Hid (Var wm p2 a2 P2 l)) {w' : World} (hk : Below wm.heap.size wm w') : w'.cell? ⟨p0, 0, none⟩ = some (.int .i64 a0) ∧ w'.cell? ⟨p0, 1, none⟩ = some (.pointer P0) ∧ w'.cell? ⟨p1, 0, none⟩ = some (.int .i64 a1) ∧ w'.cell? ⟨p1, 1, none⟩ = some (.pointer P1) ∧ w'.cell? ⟨p2, 0, none⟩ = some (.int .i64 a2) ∧ w'.cell? ⟨p2, 1, none⟩ = some (.pointer P2) ∧ Below wm.heap.size wm w' :=
  ⟨(V0.out.keep hk).c0, (V0.out.keep hk).c1, (V1.out.keep hk).c0, (V1.out.keep hk).c1, (V2.out.keep hk).c0, (V2.out.keep hk).c1, hk⟩
set_option maxRecDepth 100000 in
set_option maxHeartbeats 8000000 in
theorem integerOrder_walk (s t u : ByteArray) (w : World) (hs : s.size ≤ 9223372036854775807) (ht : t.size ≤ 9223372036854775807) (hu : u.size ≤ 9223372036854775807) (hw : Good w) :
    Calls Tryd.prog 13 #[.string s, .string t, .string u] w fun e w' => e = .returned (.bool true) ∧ Below w.heap.size w w' := by
  have Hw := Lib.hid (fun w' (h : Below w.heap.size w w') => hw.below h)
  have Hk := Lib.hid (known_true w hw)
  have Hrs := Lib.hid (fun w => right_any s w hs)
  obtain ⟨bs, hbs⟩ : ∃ b, okT s = b := ⟨_, rfl⟩
  rw [hbs] at Hrs
  have Hbs := Lib.hid hbs
  have Hrt := Lib.hid (fun w => right_any t w ht)
  obtain ⟨bt, hbt⟩ : ∃ b, okT t = b := ⟨_, rfl⟩
  rw [hbt] at Hrt
  have Hbt := Lib.hid hbt
  have Hru := Lib.hid (fun w => right_any u w hu)
  obtain ⟨bu, hbu⟩ : ∃ b, okT u = b := ⟨_, rfl⟩
  rw [hbu] at Hru
  have Hbu := Lib.hid hbu
  clear hw hbs hbt hbu
  go_enter Tryd.func13, Tryd.ntmps13
  go_wp2_with fail
  refine Hk.out.mono ?_
  rintro e w1 ⟨rfl, h1⟩
  have k1 := Lib.hid h1
  have Hk2 := Lib.hid (known_true w1 (Hw.out _ h1))
  clear h1
  go_wp2_with fail
  refine (Hrs.out _).mono ?_
  rintro e w2 ⟨rfl, rfl⟩
  cases bs with
  | false =>
    go_wp2_with fail
    refine Hk2.out.mono ?_
    rintro e w2 ⟨rfl, h2⟩
    have k2 := Lib.hid (below_on k1.out h2)
    clear h2
    go_wp2
    go_ret
    exact ⟨rfl, k2.out⟩
  | true =>
    go_wp2_with fail
    refine (Hrt.out _).mono ?_
    rintro e w2 ⟨rfl, rfl⟩
    cases bt with
    | false =>
      go_wp2_with fail
      refine Hk2.out.mono ?_
      rintro e w2 ⟨rfl, h2⟩
      have k2 := Lib.hid (below_on k1.out h2)
      clear h2
      go_wp2
      go_ret
      exact ⟨rfl, k2.out⟩
    | true =>
      go_wp2_with fail
      refine (Hru.out _).mono ?_
      rintro e w2 ⟨rfl, rfl⟩
      cases bu with
      | false =>
        go_wp2_with fail
        refine Hk2.out.mono ?_
        rintro e w2 ⟨rfl, h2⟩
        have k2 := Lib.hid (below_on k1.out h2)
        clear h2
        go_wp2
        go_ret
        exact ⟨rfl, k2.out⟩
      | true =>
        have Hs := okT_true Hbs.out
        have Ls := Lib.hid (zOf_lt Hbs.out)
        have Es := Lib.hid (txt_zOf Hs.2)
        have Hreads := Lib.hid (fun w => read_any s w Hs.1 Hs.2)
        have Ht := okT_true Hbt.out
        have Lt := Lib.hid (zOf_lt Hbt.out)
        have Et := Lib.hid (txt_zOf Ht.2)
        have Hreadt := Lib.hid (fun w => read_any t w Ht.1 Ht.2)
        have Hu := okT_true Hbu.out
        have Lu := Lib.hid (zOf_lt Hbu.out)
        have Eu := Lib.hid (txt_zOf Hu.2)
        have Hreadu := Lib.hid (fun w => read_any u w Hu.1 Hu.2)
        obtain ⟨z, hz⟩ : ∃ z, zOf s = z := ⟨_, rfl⟩
        rw [hz] at Ls Es Hreads
        obtain ⟨k, hk⟩ : ∃ k, zOf t = k := ⟨_, rfl⟩
        rw [hk] at Lt Et Hreadt
        obtain ⟨l, hl⟩ : ∃ l, zOf u = l := ⟨_, rfl⟩
        rw [hl] at Lu Eu Hreadu
        clear hz hk hl Hs Ht Hu
        go_wp2_with fail
        refine (Hreads.out _).mono ?_
        rintro e v0 ⟨a0, P0, rfl, hi0, h0⟩
        have V0 := Lib.hid (Var.new hi0)
        have K0 := Lib.hid (below_var (below_on k1.out h0) (.cells #[.int .i64 a0, .pointer P0] 25))
        clear h0 hi0
        go_wp2_with fail
        refine (Hreadt.out _).mono ?_
        rintro e v1 ⟨a1, P1, rfl, hi1, h1⟩
        have V1 := Lib.hid (Var.new hi1)
        have K1 := Lib.hid (below_var (below_on K0.out h1) (.cells #[.int .i64 a1, .pointer P1] 25))
        have V0 := Lib.hid ((V0.out.keep h1).keep ((Below.refl v1.heap.size v1).alloc (Nat.le_refl _) (.cells #[.int .i64 a1, .pointer P1] 25)))
        clear h1 hi1
        go_wp2_with fail
        refine (Hreadu.out _).mono ?_
        rintro e v2 ⟨a2, P2, rfl, hi2, h2⟩
        have V2 := Lib.hid (Var.new hi2)
        have K2 := Lib.hid (below_var (below_on K1.out h2) (.cells #[.int .i64 a2, .pointer P2] 25))
        have V0 := Lib.hid ((V0.out.keep h2).keep ((Below.refl v2.heap.size v2).alloc (Nat.le_refl _) (.cells #[.int .i64 a2, .pointer P2] 25)))
        have V1 := Lib.hid ((V1.out.keep h2).keep ((Below.refl v2.heap.size v2).alloc (Nat.le_refl _) (.cells #[.int .i64 a2, .pointer P2] 25)))
        clear h2 hi2
        obtain ⟨p0, hp0⟩ : ∃ p, v0.heap.size = p := ⟨_, rfl⟩
        obtain ⟨p1, hp1⟩ : ∃ p, v1.heap.size = p := ⟨_, rfl⟩
        obtain ⟨p2, hp2⟩ : ∃ p, v2.heap.size = p := ⟨_, rfl⟩
        obtain ⟨wm, hm⟩ : ∃ wm, v2.alloc (.cells #[.int .i64 a2, .pointer P2] 25) = wm := ⟨_, rfl⟩
        rw [hm, hp0] at V0
        rw [hm, hp1] at V1
        rw [hm, hp2] at V2
        rw [hm] at K2
        have c00 := V0.out.c0
        have c01 := V0.out.c1
        have c10 := V1.out.c0
        have c11 := V1.out.c1
        have c20 := V2.out.c0
        have c21 := V2.out.c1
        have Hcab := Lib.hid (compare_any _ _ z k wm V0.out.int V1.out.int)
        go_wp2_with fail
        try simp only [hp0, hp1, hp2, hm]
        refine Hcab.out.mono ?_
        rintro e w2 ⟨rfl, h2⟩
        have k2 := Lib.hid h2
        clear h2 c00 c01 c10 c11 c20 c21
        have c00 := (V0.out.keep k2.out).c0
        have c01 := (V0.out.keep k2.out).c1
        have c10 := (V1.out.keep k2.out).c0
        have c11 := (V1.out.keep k2.out).c1
        have c20 := (V2.out.keep k2.out).c0
        have c21 := (V2.out.keep k2.out).c1
        obtain ⟨r, hr⟩ : ∃ r, cmpZ z k = r := ⟨_, rfl⟩
        have Hr := Lib.hid hr
        have HS := Lib.hid (fun w' (h : w'.cell? ⟨p0, 0, none⟩ = some (.int .i64 a0) ∧ w'.cell? ⟨p0, 1, none⟩ = some (.pointer P0) ∧ w'.cell? ⟨p1, 0, none⟩ = some (.int .i64 a1) ∧ w'.cell? ⟨p1, 1, none⟩ = some (.pointer P1) ∧ w'.cell? ⟨p2, 0, none⟩ = some (.int .i64 a2) ∧ w'.cell? ⟨p2, 1, none⟩ = some (.pointer P2) ∧ Below wm.heap.size wm w') => sub_any a0 a1 P0 P1 z k w' (V0.out.keep h.2.2.2.2.2.2).int (V1.out.keep h.2.2.2.2.2.2).int (base_mono Ls.out (by decide)) (base_mono Lt.out (by decide)))
        have HG := Lib.hid (fun w' x X (h : IsInt 0 w' (.agg #[.int .i64 x, .pointer X]) (z - k)) => (signZ_any _ _ w' h))
        have HA := Lib.hid (fun w' (h : w'.cell? ⟨p0, 0, none⟩ = some (.int .i64 a0) ∧ w'.cell? ⟨p0, 1, none⟩ = some (.pointer P0) ∧ w'.cell? ⟨p1, 0, none⟩ = some (.int .i64 a1) ∧ w'.cell? ⟨p1, 1, none⟩ = some (.pointer P1) ∧ w'.cell? ⟨p2, 0, none⟩ = some (.int .i64 a2) ∧ w'.cell? ⟨p2, 1, none⟩ = some (.pointer P2) ∧ Below wm.heap.size wm w') => add_any a0 a2 P0 P2 z l w' (V0.out.keep h.2.2.2.2.2.2).int (V2.out.keep h.2.2.2.2.2.2).int (base_mono Ls.out (by decide)) (base_mono Lu.out (by decide)))
        have HB := Lib.hid (fun w' (h : w'.cell? ⟨p0, 0, none⟩ = some (.int .i64 a0) ∧ w'.cell? ⟨p0, 1, none⟩ = some (.pointer P0) ∧ w'.cell? ⟨p1, 0, none⟩ = some (.int .i64 a1) ∧ w'.cell? ⟨p1, 1, none⟩ = some (.pointer P1) ∧ w'.cell? ⟨p2, 0, none⟩ = some (.int .i64 a2) ∧ w'.cell? ⟨p2, 1, none⟩ = some (.pointer P2) ∧ Below wm.heap.size wm w') => add_any a1 a2 P1 P2 k l w' (V1.out.keep h.2.2.2.2.2.2).int (V2.out.keep h.2.2.2.2.2.2).int (base_mono Lt.out (by decide)) (base_mono Lu.out (by decide)))
        have HC := Lib.hid (fun w' x X y Y (h : IsInt 0 w' (.agg #[.int .i64 x, .pointer X]) (z + l)) (h' : IsInt 0 w' (.agg #[.int .i64 y, .pointer Y]) (k + l)) => compare_any _ _ _ _ w' h h')
        rw [sgn_sub, hr] at HG
        rw [cmpZ_add, hr] at HC
        simp only [hr]
        clear hr
        have S2 := three_start V0 V1 V2 k2.out
        clear c00 c01 c10 c11 c20 c21
        go_wp2_with fail
        go_region_held3 (fun w' => w'.cell? ⟨p0, 0, none⟩ = some (.int .i64 a0) ∧ w'.cell? ⟨p0, 1, none⟩ = some (.pointer P0) ∧ w'.cell? ⟨p1, 0, none⟩ = some (.int .i64 a1) ∧ w'.cell? ⟨p1, 1, none⟩ = some (.pointer P1) ∧ w'.cell? ⟨p2, 0, none⟩ = some (.int .i64 a2) ∧ w'.cell? ⟨p2, 1, none⟩ = some (.pointer P2) ∧ Below wm.heap.size wm w')
          (first
            | exact three_start V0 V1 V2 (k2.out.drew)
            | exact three_call V0 V1 V2 (by assumption) (by assumption))
          (first
            | (go_at_call 32; refine (HS.out _ (by assumption)).mono ?_; rintro e w' ⟨x1, X1, rfl, hi1, hb⟩)
            | (go_at_call 21; refine (HG.out _ _ _ (by assumption)).mono ?_; rintro e w' ⟨rfl, hb⟩)
            | (go_at_call_of 30 P0; refine (HA.out _ (by assumption)).mono ?_; rintro e w' ⟨x2, X2, rfl, hi2, hb⟩)
            | (go_at_call_of 30 P1; refine (HB.out _ (by assumption)).mono ?_; rintro e w' ⟨x3, X3, rfl, hi3, hb⟩)
            | (go_at_call 22; refine (HC.out _ _ _ _ _ (hi2.keep (by assumption)) hi3).mono ?_; rintro e w' ⟨rfl, hb⟩))
        go_split_ands
        have hw3 : Below wm.heap.size wm w' := by assumption
        have K3 := Lib.hid hw3
        generalize w' = w3 at K3 ⊢
        clear hw3
        have HM := Lib.hid (fun w' (h : w'.cell? ⟨p0, 0, none⟩ = some (.int .i64 a0) ∧ w'.cell? ⟨p0, 1, none⟩ = some (.pointer P0) ∧ w'.cell? ⟨p1, 0, none⟩ = some (.int .i64 a1) ∧ w'.cell? ⟨p1, 1, none⟩ = some (.pointer P1) ∧ w'.cell? ⟨p2, 0, none⟩ = some (.int .i64 a2) ∧ w'.cell? ⟨p2, 1, none⟩ = some (.pointer P2) ∧ Below wm.heap.size wm w') => mul_any a0 a2 P0 P2 z l w' (V0.out.keep h.2.2.2.2.2.2).int (V2.out.keep h.2.2.2.2.2.2).int (base_mono Ls.out (by decide)) (base_mono Lu.out (by decide)) (.inl (base_mono Ls.out (by decide))))
        have HN := Lib.hid (fun w' (h : w'.cell? ⟨p0, 0, none⟩ = some (.int .i64 a0) ∧ w'.cell? ⟨p0, 1, none⟩ = some (.pointer P0) ∧ w'.cell? ⟨p1, 0, none⟩ = some (.int .i64 a1) ∧ w'.cell? ⟨p1, 1, none⟩ = some (.pointer P1) ∧ w'.cell? ⟨p2, 0, none⟩ = some (.int .i64 a2) ∧ w'.cell? ⟨p2, 1, none⟩ = some (.pointer P2) ∧ Below wm.heap.size wm w') => mul_any a1 a2 P1 P2 k l w' (V1.out.keep h.2.2.2.2.2.2).int (V2.out.keep h.2.2.2.2.2.2).int (base_mono Lt.out (by decide)) (base_mono Lu.out (by decide)) (.inl (base_mono Lt.out (by decide))))
        have HSl := Lib.hid (fun w' (h : w'.cell? ⟨p0, 0, none⟩ = some (.int .i64 a0) ∧ w'.cell? ⟨p0, 1, none⟩ = some (.pointer P0) ∧ w'.cell? ⟨p1, 0, none⟩ = some (.int .i64 a1) ∧ w'.cell? ⟨p1, 1, none⟩ = some (.pointer P1) ∧ w'.cell? ⟨p2, 0, none⟩ = some (.int .i64 a2) ∧ w'.cell? ⟨p2, 1, none⟩ = some (.pointer P2) ∧ Below wm.heap.size wm w') => signZ_any _ l w' (V2.out.keep h.2.2.2.2.2.2).int)
        have Hbc := Lib.hid (fun w' (h : w'.cell? ⟨p0, 0, none⟩ = some (.int .i64 a0) ∧ w'.cell? ⟨p0, 1, none⟩ = some (.pointer P0) ∧ w'.cell? ⟨p1, 0, none⟩ = some (.int .i64 a1) ∧ w'.cell? ⟨p1, 1, none⟩ = some (.pointer P1) ∧ w'.cell? ⟨p2, 0, none⟩ = some (.int .i64 a2) ∧ w'.cell? ⟨p2, 1, none⟩ = some (.pointer P2) ∧ Below wm.heap.size wm w') => compare_any _ _ k l w' (V1.out.keep h.2.2.2.2.2.2).int (V2.out.keep h.2.2.2.2.2.2).int)
        have Hac := Lib.hid (fun w' (h : w'.cell? ⟨p0, 0, none⟩ = some (.int .i64 a0) ∧ w'.cell? ⟨p0, 1, none⟩ = some (.pointer P0) ∧ w'.cell? ⟨p1, 0, none⟩ = some (.int .i64 a1) ∧ w'.cell? ⟨p1, 1, none⟩ = some (.pointer P1) ∧ w'.cell? ⟨p2, 0, none⟩ = some (.int .i64 a2) ∧ w'.cell? ⟨p2, 1, none⟩ = some (.pointer P2) ∧ Below wm.heap.size wm w') => compare_any _ _ z l w' (V0.out.keep h.2.2.2.2.2.2).int (V2.out.keep h.2.2.2.2.2.2).int)
        clear hi1 hi2 hi3
        have HC2 := Lib.hid (fun w' x X y Y (h : IsInt 0 w' (.agg #[.int .i64 x, .pointer X]) (z * l)) (h' : IsInt 0 w' (.agg #[.int .i64 y, .pointer Y]) (k * l)) => compare_any _ _ _ _ w' h h')
        by_cases hl : 0 < l
        · rw [show sgn l = 1 by unfold sgn; rw [if_neg (by omega), if_pos hl]] at HSl
          rw [cmpZ_mul z k hl, Hr.out] at HC2
          clear hl
          go_wp2_with fail
          go_region_held3 (fun w' => w'.cell? ⟨p0, 0, none⟩ = some (.int .i64 a0) ∧ w'.cell? ⟨p0, 1, none⟩ = some (.pointer P0) ∧ w'.cell? ⟨p1, 0, none⟩ = some (.int .i64 a1) ∧ w'.cell? ⟨p1, 1, none⟩ = some (.pointer P1) ∧ w'.cell? ⟨p2, 0, none⟩ = some (.int .i64 a2) ∧ w'.cell? ⟨p2, 1, none⟩ = some (.pointer P2) ∧ Below wm.heap.size wm w')
            (first
              | exact three_start V0 V1 V2 (K3.out.drew)
              | exact three_call V0 V1 V2 (by assumption) (by assumption))
            (first
              | (go_at_call 21; refine (HSl.out _ (by assumption)).mono ?_; rintro e w' ⟨rfl, hb⟩)
              | (go_at_call_of 36 P0; refine (HM.out _ (by assumption)).mono ?_; rintro e w' ⟨x2, X2, rfl, hi2, hb⟩)
              | (go_at_call_of 36 P1; refine (HN.out _ (by assumption)).mono ?_; rintro e w' ⟨x3, X3, rfl, hi3, hb⟩)
              | (go_at_call 22; refine (HC2.out _ _ _ _ _ (hi2.keep (by assumption)) hi3).mono ?_; rintro e w' ⟨rfl, hb⟩))
          go_split_ands
          have hw4 : Below wm.heap.size wm w' := by assumption
          have K4 := Lib.hid hw4
          generalize w' = w4 at K4 ⊢
          clear hw4
          rcases cmpZ_cases z k with ⟨h1, h2⟩ | ⟨h1, h2⟩ | ⟨h1, h2⟩
          · obtain rfl : r = -1 := by rw [← Hr.out]; exact h2
            rcases cmpZ_cases k l with ⟨h3, h4⟩ | ⟨h3, h4⟩ | ⟨h3, h4⟩
            · rw [h4] at Hbc
              obtain ⟨q, hq, hq0⟩ : ∃ q, cmpZ z l = q ∧ q ≤ 0 := ⟨_, rfl, by unfold cmpZ; split <;> (try split) <;> omega⟩
              rw [hq] at Hac
              clear hq
              clear h1 h2 h3 h4
              have c10 := (V1.out.keep K4.out).c0
              have c11 := (V1.out.keep K4.out).c1
              have c20 := (V2.out.keep K4.out).c0
              have c21 := (V2.out.keep K4.out).c1
              have c00 := (V0.out.keep K4.out).c0
              have c01 := (V0.out.keep K4.out).c1
              go_wp2_with fail
              refine (Hbc.out _ (three_start V0 V1 V2 K4.out)).mono ?_
              rintro e w5 ⟨rfl, h5⟩
              have K5 := Lib.hid (below_on K4.out h5)
              clear h5 c10 c11 c20 c21 c00 c01
              have c20 := (V2.out.keep K5.out).c0
              have c21 := (V2.out.keep K5.out).c1
              have c00 := (V0.out.keep K5.out).c0
              have c01 := (V0.out.keep K5.out).c1
              go_wp2_with fail
              refine (Hac.out _ (three_start V0 V1 V2 K5.out)).mono ?_
              rintro e w6 ⟨rfl, h6⟩
              have K6 := Lib.hid (below_on K5.out h6)
              clear h6
              go_wp2
              go_ret
              exact ⟨rfl, below_on K2.out K6.out⟩
            · rw [h4] at Hbc
              obtain ⟨q, hq, hq0⟩ : ∃ q, cmpZ z l = q ∧ q ≤ 0 := ⟨_, rfl, by unfold cmpZ; split <;> (try split) <;> omega⟩
              rw [hq] at Hac
              clear hq
              clear h1 h2 h3 h4
              have c10 := (V1.out.keep K4.out).c0
              have c11 := (V1.out.keep K4.out).c1
              have c20 := (V2.out.keep K4.out).c0
              have c21 := (V2.out.keep K4.out).c1
              have c00 := (V0.out.keep K4.out).c0
              have c01 := (V0.out.keep K4.out).c1
              go_wp2_with fail
              refine (Hbc.out _ (three_start V0 V1 V2 K4.out)).mono ?_
              rintro e w5 ⟨rfl, h5⟩
              have K5 := Lib.hid (below_on K4.out h5)
              clear h5 c10 c11 c20 c21 c00 c01
              have c20 := (V2.out.keep K5.out).c0
              have c21 := (V2.out.keep K5.out).c1
              have c00 := (V0.out.keep K5.out).c0
              have c01 := (V0.out.keep K5.out).c1
              go_wp2_with fail
              refine (Hac.out _ (three_start V0 V1 V2 K5.out)).mono ?_
              rintro e w6 ⟨rfl, h6⟩
              have K6 := Lib.hid (below_on K5.out h6)
              clear h6
              go_wp2
              go_ret
              exact ⟨rfl, below_on K2.out K6.out⟩
            · rw [h4] at Hbc
              clear h1 h2 h3 h4
              have c10 := (V1.out.keep K4.out).c0
              have c11 := (V1.out.keep K4.out).c1
              have c20 := (V2.out.keep K4.out).c0
              have c21 := (V2.out.keep K4.out).c1
              have c00 := (V0.out.keep K4.out).c0
              have c01 := (V0.out.keep K4.out).c1
              go_wp2_with fail
              refine (Hbc.out _ (three_start V0 V1 V2 K4.out)).mono ?_
              rintro e w5 ⟨rfl, h5⟩
              have K5 := Lib.hid (below_on K4.out h5)
              clear h5
              go_wp2
              go_ret
              exact ⟨rfl, below_on K2.out K5.out⟩
          · obtain rfl : r = 0 := by rw [← Hr.out]; exact h2
            rcases cmpZ_cases k l with ⟨h3, h4⟩ | ⟨h3, h4⟩ | ⟨h3, h4⟩
            · rw [h4] at Hbc
              obtain ⟨q, hq, hq0⟩ : ∃ q, cmpZ z l = q ∧ q ≤ 0 := ⟨_, rfl, by unfold cmpZ; split <;> (try split) <;> omega⟩
              rw [hq] at Hac
              clear hq
              clear h1 h2 h3 h4
              have c10 := (V1.out.keep K4.out).c0
              have c11 := (V1.out.keep K4.out).c1
              have c20 := (V2.out.keep K4.out).c0
              have c21 := (V2.out.keep K4.out).c1
              have c00 := (V0.out.keep K4.out).c0
              have c01 := (V0.out.keep K4.out).c1
              go_wp2_with fail
              refine (Hbc.out _ (three_start V0 V1 V2 K4.out)).mono ?_
              rintro e w5 ⟨rfl, h5⟩
              have K5 := Lib.hid (below_on K4.out h5)
              clear h5 c10 c11 c20 c21 c00 c01
              have c20 := (V2.out.keep K5.out).c0
              have c21 := (V2.out.keep K5.out).c1
              have c00 := (V0.out.keep K5.out).c0
              have c01 := (V0.out.keep K5.out).c1
              go_wp2_with fail
              refine (Hac.out _ (three_start V0 V1 V2 K5.out)).mono ?_
              rintro e w6 ⟨rfl, h6⟩
              have K6 := Lib.hid (below_on K5.out h6)
              clear h6
              go_wp2
              go_ret
              exact ⟨rfl, below_on K2.out K6.out⟩
            · rw [h4] at Hbc
              obtain ⟨q, hq, hq0⟩ : ∃ q, cmpZ z l = q ∧ q ≤ 0 := ⟨_, rfl, by unfold cmpZ; split <;> (try split) <;> omega⟩
              rw [hq] at Hac
              clear hq
              clear h1 h2 h3 h4
              have c10 := (V1.out.keep K4.out).c0
              have c11 := (V1.out.keep K4.out).c1
              have c20 := (V2.out.keep K4.out).c0
              have c21 := (V2.out.keep K4.out).c1
              have c00 := (V0.out.keep K4.out).c0
              have c01 := (V0.out.keep K4.out).c1
              go_wp2_with fail
              refine (Hbc.out _ (three_start V0 V1 V2 K4.out)).mono ?_
              rintro e w5 ⟨rfl, h5⟩
              have K5 := Lib.hid (below_on K4.out h5)
              clear h5 c10 c11 c20 c21 c00 c01
              have c20 := (V2.out.keep K5.out).c0
              have c21 := (V2.out.keep K5.out).c1
              have c00 := (V0.out.keep K5.out).c0
              have c01 := (V0.out.keep K5.out).c1
              go_wp2_with fail
              refine (Hac.out _ (three_start V0 V1 V2 K5.out)).mono ?_
              rintro e w6 ⟨rfl, h6⟩
              have K6 := Lib.hid (below_on K5.out h6)
              clear h6
              go_wp2
              go_ret
              exact ⟨rfl, below_on K2.out K6.out⟩
            · rw [h4] at Hbc
              clear h1 h2 h3 h4
              have c10 := (V1.out.keep K4.out).c0
              have c11 := (V1.out.keep K4.out).c1
              have c20 := (V2.out.keep K4.out).c0
              have c21 := (V2.out.keep K4.out).c1
              have c00 := (V0.out.keep K4.out).c0
              have c01 := (V0.out.keep K4.out).c1
              go_wp2_with fail
              refine (Hbc.out _ (three_start V0 V1 V2 K4.out)).mono ?_
              rintro e w5 ⟨rfl, h5⟩
              have K5 := Lib.hid (below_on K4.out h5)
              clear h5
              go_wp2
              go_ret
              exact ⟨rfl, below_on K2.out K5.out⟩
          · obtain rfl : r = 1 := by rw [← Hr.out]; exact h2
            clear h1 h2
            go_wp2
            go_ret
            exact ⟨rfl, below_on K2.out K4.out⟩
        · by_cases hl0 : l = 0
          · rw [show sgn l = 0 by unfold sgn; rw [if_neg (by omega), if_neg hl]] at HSl
            clear hl hl0
            have c20 := (V2.out.keep K3.out).c0
            have c21 := (V2.out.keep K3.out).c1
            have c00 := (V0.out.keep K3.out).c0
            have c01 := (V0.out.keep K3.out).c1
            have c10 := (V1.out.keep K3.out).c0
            have c11 := (V1.out.keep K3.out).c1
            go_wp2_with fail
            refine wp_region_held_drew (S := fun w' => w'.cell? ⟨p0, 0, none⟩ = some (.int .i64 a0) ∧ w'.cell? ⟨p0, 1, none⟩ = some (.pointer P0) ∧ w'.cell? ⟨p1, 0, none⟩ = some (.int .i64 a1) ∧ w'.cell? ⟨p1, 1, none⟩ = some (.pointer P1) ∧ w'.cell? ⟨p2, 0, none⟩ = some (.int .i64 a2) ∧ w'.cell? ⟨p2, 1, none⟩ = some (.pointer P2) ∧ Below wm.heap.size wm w') (by kernel_rfl) (three_start V0 V1 V2 K3.out.drew) (fun hHeld => ?_)
            refine region_take (i := 0) (d := some 67) (v := .agg #[.int .i64 a2, .pointer P2]) rfl rfl (by kernel_rfl) (by kernel_rfl) (by kernel_rfl) (fun _ _ _ h => h) (by kernel_rfl) (by (intro w hSw; (try dsimp only at hSw); go_split_ands; go_simp)) (by assumption) ?_
            try simp only [Act.put, List.setIfInBounds_toArray, List.set_cons_zero, List.set_cons_succ]
            refine wpAnyH_ready (rs := [1]) (by kernel_rfl) (by simp) ?_
            refine AllReadyH.cons rfl (fun K hK => ?_) AllReadyH.nil
            go_simp
            refine (HSl.out _ (by assumption)).mono ?_
            rintro e w9 ⟨rfl, hb⟩
            go_wp2_with fail
            refine hK.out _ _ (three_call V0 V1 V2 (by assumption) (by assumption)) (fun hHeld2 => ?_)
            try simp only [Act.put, List.setIfInBounds_toArray, List.set_cons_zero, List.set_cons_succ]
            refine region_take (i := 2) (d := some 69) (v := .bool false) rfl rfl (by kernel_rfl) (by kernel_rfl) (by kernel_rfl) (fun _ _ _ h => h) (by kernel_rfl) (by (intro w hSw; go_simp)) (by assumption) ?_
            try simp only [Act.put, List.setIfInBounds_toArray, List.set_cons_zero, List.set_cons_succ]
            refine region_take (i := 3) (d := some 70) (v := .bool false) rfl rfl (by kernel_rfl) (by kernel_rfl) (by kernel_rfl) (fun _ _ _ h => h) (by kernel_rfl) (by (intro w hSw; go_simp)) (by assumption) ?_
            try simp only [Act.put, List.setIfInBounds_toArray, List.set_cons_zero, List.set_cons_succ]
            refine region_skip (i := 4) (d := some 71) rfl rfl (by kernel_rfl) (by kernel_rfl) (by kernel_rfl) (fun _ _ _ h => h) (by kernel_rfl) (by assumption) ?_
            try simp only [Act.put, List.setIfInBounds_toArray, List.set_cons_zero, List.set_cons_succ]
            refine region_skip (i := 5) (d := some 72) rfl rfl (by kernel_rfl) (by kernel_rfl) (by kernel_rfl) (fun _ _ _ h => h) (by kernel_rfl) (by assumption) ?_
            try simp only [Act.put, List.setIfInBounds_toArray, List.set_cons_zero, List.set_cons_succ]
            refine region_skip (i := 6) (d := some 73) rfl rfl (by kernel_rfl) (by kernel_rfl) (by kernel_rfl) (fun _ _ _ h => h) (by kernel_rfl) (by assumption) ?_
            try simp only [Act.put, List.setIfInBounds_toArray, List.set_cons_zero, List.set_cons_succ]
            refine region_skip (i := 7) (d := some 74) rfl rfl (by kernel_rfl) (by kernel_rfl) (by kernel_rfl) (fun _ _ _ h => h) (by kernel_rfl) (by assumption) ?_
            try simp only [Act.put, List.setIfInBounds_toArray, List.set_cons_zero, List.set_cons_succ]
            refine region_skip (i := 8) (d := some 75) rfl rfl (by kernel_rfl) (by kernel_rfl) (by kernel_rfl) (fun _ _ _ h => h) (by kernel_rfl) (by assumption) ?_
            try simp only [Act.put, List.setIfInBounds_toArray, List.set_cons_zero, List.set_cons_succ]
            refine region_skip (i := 9) (d := some 76) rfl rfl (by kernel_rfl) (by kernel_rfl) (by kernel_rfl) (fun _ _ _ h => h) (by kernel_rfl) (by assumption) ?_
            try simp only [Act.put, List.setIfInBounds_toArray, List.set_cons_zero, List.set_cons_succ]
            refine region_skip (i := 10) (d := some 77) rfl rfl (by kernel_rfl) (by kernel_rfl) (by kernel_rfl) (fun _ _ _ h => h) (by kernel_rfl) (by assumption) ?_
            try simp only [Act.put, List.setIfInBounds_toArray, List.set_cons_zero, List.set_cons_succ]
            refine region_skip (i := 11) (d := some 78) rfl rfl (by kernel_rfl) (by kernel_rfl) (by kernel_rfl) (fun _ _ _ h => h) (by kernel_rfl) (by assumption) ?_
            try simp only [Act.put, List.setIfInBounds_toArray, List.set_cons_zero, List.set_cons_succ]
            refine region_skip (i := 12) (d := some 79) rfl rfl (by kernel_rfl) (by kernel_rfl) (by kernel_rfl) (fun _ _ _ h => h) (by kernel_rfl) (by assumption) ?_
            try simp only [Act.put, List.setIfInBounds_toArray, List.set_cons_zero, List.set_cons_succ]
            refine region_take (i := 13) (d := some 80) (v := .bool false) rfl rfl (by kernel_rfl) (by kernel_rfl) (by kernel_rfl) (fun _ _ _ h => h) (by kernel_rfl) (by (intro w hSw; go_simp)) (by assumption) ?_
            try simp only [Act.put, List.setIfInBounds_toArray, List.set_cons_zero, List.set_cons_succ]
            refine wpAnyH_done (by kernel_rfl) ?_ _
            go_split_ands
            have hw4 : Below wm.heap.size wm w9 := by assumption
            have K4 := Lib.hid hw4
            generalize w9 = w4 at K4 ⊢
            clear hw4
            rcases cmpZ_cases z k with ⟨h1, h2⟩ | ⟨h1, h2⟩ | ⟨h1, h2⟩
            · obtain rfl : r = -1 := by rw [← Hr.out]; exact h2
              rcases cmpZ_cases k l with ⟨h3, h4⟩ | ⟨h3, h4⟩ | ⟨h3, h4⟩
              · rw [h4] at Hbc
                obtain ⟨q, hq, hq0⟩ : ∃ q, cmpZ z l = q ∧ q ≤ 0 := ⟨_, rfl, by unfold cmpZ; split <;> (try split) <;> omega⟩
                rw [hq] at Hac
                clear hq
                clear h1 h2 h3 h4
                have c10 := (V1.out.keep K4.out).c0
                have c11 := (V1.out.keep K4.out).c1
                have c20 := (V2.out.keep K4.out).c0
                have c21 := (V2.out.keep K4.out).c1
                have c00 := (V0.out.keep K4.out).c0
                have c01 := (V0.out.keep K4.out).c1
                go_wp2_with fail
                refine (Hbc.out _ (three_start V0 V1 V2 K4.out)).mono ?_
                rintro e w5 ⟨rfl, h5⟩
                have K5 := Lib.hid (below_on K4.out h5)
                clear h5 c10 c11 c20 c21 c00 c01
                have c20 := (V2.out.keep K5.out).c0
                have c21 := (V2.out.keep K5.out).c1
                have c00 := (V0.out.keep K5.out).c0
                have c01 := (V0.out.keep K5.out).c1
                go_wp2_with fail
                refine (Hac.out _ (three_start V0 V1 V2 K5.out)).mono ?_
                rintro e w6 ⟨rfl, h6⟩
                have K6 := Lib.hid (below_on K5.out h6)
                clear h6
                go_wp2
                go_ret
                exact ⟨rfl, below_on K2.out K6.out⟩
              · rw [h4] at Hbc
                obtain ⟨q, hq, hq0⟩ : ∃ q, cmpZ z l = q ∧ q ≤ 0 := ⟨_, rfl, by unfold cmpZ; split <;> (try split) <;> omega⟩
                rw [hq] at Hac
                clear hq
                clear h1 h2 h3 h4
                have c10 := (V1.out.keep K4.out).c0
                have c11 := (V1.out.keep K4.out).c1
                have c20 := (V2.out.keep K4.out).c0
                have c21 := (V2.out.keep K4.out).c1
                have c00 := (V0.out.keep K4.out).c0
                have c01 := (V0.out.keep K4.out).c1
                go_wp2_with fail
                refine (Hbc.out _ (three_start V0 V1 V2 K4.out)).mono ?_
                rintro e w5 ⟨rfl, h5⟩
                have K5 := Lib.hid (below_on K4.out h5)
                clear h5 c10 c11 c20 c21 c00 c01
                have c20 := (V2.out.keep K5.out).c0
                have c21 := (V2.out.keep K5.out).c1
                have c00 := (V0.out.keep K5.out).c0
                have c01 := (V0.out.keep K5.out).c1
                go_wp2_with fail
                refine (Hac.out _ (three_start V0 V1 V2 K5.out)).mono ?_
                rintro e w6 ⟨rfl, h6⟩
                have K6 := Lib.hid (below_on K5.out h6)
                clear h6
                go_wp2
                go_ret
                exact ⟨rfl, below_on K2.out K6.out⟩
              · rw [h4] at Hbc
                clear h1 h2 h3 h4
                have c10 := (V1.out.keep K4.out).c0
                have c11 := (V1.out.keep K4.out).c1
                have c20 := (V2.out.keep K4.out).c0
                have c21 := (V2.out.keep K4.out).c1
                have c00 := (V0.out.keep K4.out).c0
                have c01 := (V0.out.keep K4.out).c1
                go_wp2_with fail
                refine (Hbc.out _ (three_start V0 V1 V2 K4.out)).mono ?_
                rintro e w5 ⟨rfl, h5⟩
                have K5 := Lib.hid (below_on K4.out h5)
                clear h5
                go_wp2
                go_ret
                exact ⟨rfl, below_on K2.out K5.out⟩
            · obtain rfl : r = 0 := by rw [← Hr.out]; exact h2
              rcases cmpZ_cases k l with ⟨h3, h4⟩ | ⟨h3, h4⟩ | ⟨h3, h4⟩
              · rw [h4] at Hbc
                obtain ⟨q, hq, hq0⟩ : ∃ q, cmpZ z l = q ∧ q ≤ 0 := ⟨_, rfl, by unfold cmpZ; split <;> (try split) <;> omega⟩
                rw [hq] at Hac
                clear hq
                clear h1 h2 h3 h4
                have c10 := (V1.out.keep K4.out).c0
                have c11 := (V1.out.keep K4.out).c1
                have c20 := (V2.out.keep K4.out).c0
                have c21 := (V2.out.keep K4.out).c1
                have c00 := (V0.out.keep K4.out).c0
                have c01 := (V0.out.keep K4.out).c1
                go_wp2_with fail
                refine (Hbc.out _ (three_start V0 V1 V2 K4.out)).mono ?_
                rintro e w5 ⟨rfl, h5⟩
                have K5 := Lib.hid (below_on K4.out h5)
                clear h5 c10 c11 c20 c21 c00 c01
                have c20 := (V2.out.keep K5.out).c0
                have c21 := (V2.out.keep K5.out).c1
                have c00 := (V0.out.keep K5.out).c0
                have c01 := (V0.out.keep K5.out).c1
                go_wp2_with fail
                refine (Hac.out _ (three_start V0 V1 V2 K5.out)).mono ?_
                rintro e w6 ⟨rfl, h6⟩
                have K6 := Lib.hid (below_on K5.out h6)
                clear h6
                go_wp2
                go_ret
                exact ⟨rfl, below_on K2.out K6.out⟩
              · rw [h4] at Hbc
                obtain ⟨q, hq, hq0⟩ : ∃ q, cmpZ z l = q ∧ q ≤ 0 := ⟨_, rfl, by unfold cmpZ; split <;> (try split) <;> omega⟩
                rw [hq] at Hac
                clear hq
                clear h1 h2 h3 h4
                have c10 := (V1.out.keep K4.out).c0
                have c11 := (V1.out.keep K4.out).c1
                have c20 := (V2.out.keep K4.out).c0
                have c21 := (V2.out.keep K4.out).c1
                have c00 := (V0.out.keep K4.out).c0
                have c01 := (V0.out.keep K4.out).c1
                go_wp2_with fail
                refine (Hbc.out _ (three_start V0 V1 V2 K4.out)).mono ?_
                rintro e w5 ⟨rfl, h5⟩
                have K5 := Lib.hid (below_on K4.out h5)
                clear h5 c10 c11 c20 c21 c00 c01
                have c20 := (V2.out.keep K5.out).c0
                have c21 := (V2.out.keep K5.out).c1
                have c00 := (V0.out.keep K5.out).c0
                have c01 := (V0.out.keep K5.out).c1
                go_wp2_with fail
                refine (Hac.out _ (three_start V0 V1 V2 K5.out)).mono ?_
                rintro e w6 ⟨rfl, h6⟩
                have K6 := Lib.hid (below_on K5.out h6)
                clear h6
                go_wp2
                go_ret
                exact ⟨rfl, below_on K2.out K6.out⟩
              · rw [h4] at Hbc
                clear h1 h2 h3 h4
                have c10 := (V1.out.keep K4.out).c0
                have c11 := (V1.out.keep K4.out).c1
                have c20 := (V2.out.keep K4.out).c0
                have c21 := (V2.out.keep K4.out).c1
                have c00 := (V0.out.keep K4.out).c0
                have c01 := (V0.out.keep K4.out).c1
                go_wp2_with fail
                refine (Hbc.out _ (three_start V0 V1 V2 K4.out)).mono ?_
                rintro e w5 ⟨rfl, h5⟩
                have K5 := Lib.hid (below_on K4.out h5)
                clear h5
                go_wp2
                go_ret
                exact ⟨rfl, below_on K2.out K5.out⟩
            · obtain rfl : r = 1 := by rw [← Hr.out]; exact h2
              clear h1 h2
              go_wp2
              go_ret
              exact ⟨rfl, below_on K2.out K4.out⟩
          · rw [show sgn l = -1 by unfold sgn; rw [if_pos (by omega)]] at HSl
            clear hl hl0
            have c20 := (V2.out.keep K3.out).c0
            have c21 := (V2.out.keep K3.out).c1
            have c00 := (V0.out.keep K3.out).c0
            have c01 := (V0.out.keep K3.out).c1
            have c10 := (V1.out.keep K3.out).c0
            have c11 := (V1.out.keep K3.out).c1
            go_wp2_with fail
            refine wp_region_held_drew (S := fun w' => w'.cell? ⟨p0, 0, none⟩ = some (.int .i64 a0) ∧ w'.cell? ⟨p0, 1, none⟩ = some (.pointer P0) ∧ w'.cell? ⟨p1, 0, none⟩ = some (.int .i64 a1) ∧ w'.cell? ⟨p1, 1, none⟩ = some (.pointer P1) ∧ w'.cell? ⟨p2, 0, none⟩ = some (.int .i64 a2) ∧ w'.cell? ⟨p2, 1, none⟩ = some (.pointer P2) ∧ Below wm.heap.size wm w') (by kernel_rfl) (three_start V0 V1 V2 K3.out.drew) (fun hHeld => ?_)
            refine region_take (i := 0) (d := some 67) (v := .agg #[.int .i64 a2, .pointer P2]) rfl rfl (by kernel_rfl) (by kernel_rfl) (by kernel_rfl) (fun _ _ _ h => h) (by kernel_rfl) (by (intro w hSw; (try dsimp only at hSw); go_split_ands; go_simp)) (by assumption) ?_
            try simp only [Act.put, List.setIfInBounds_toArray, List.set_cons_zero, List.set_cons_succ]
            refine wpAnyH_ready (rs := [1]) (by kernel_rfl) (by simp) ?_
            refine AllReadyH.cons rfl (fun K hK => ?_) AllReadyH.nil
            go_simp
            refine (HSl.out _ (by assumption)).mono ?_
            rintro e w9 ⟨rfl, hb⟩
            go_wp2_with fail
            refine hK.out _ _ (three_call V0 V1 V2 (by assumption) (by assumption)) (fun hHeld2 => ?_)
            try simp only [Act.put, List.setIfInBounds_toArray, List.set_cons_zero, List.set_cons_succ]
            refine region_take (i := 2) (d := some 69) (v := .bool false) rfl rfl (by kernel_rfl) (by kernel_rfl) (by kernel_rfl) (fun _ _ _ h => h) (by kernel_rfl) (by (intro w hSw; go_simp)) (by assumption) ?_
            try simp only [Act.put, List.setIfInBounds_toArray, List.set_cons_zero, List.set_cons_succ]
            refine region_take (i := 3) (d := some 70) (v := .bool false) rfl rfl (by kernel_rfl) (by kernel_rfl) (by kernel_rfl) (fun _ _ _ h => h) (by kernel_rfl) (by (intro w hSw; go_simp)) (by assumption) ?_
            try simp only [Act.put, List.setIfInBounds_toArray, List.set_cons_zero, List.set_cons_succ]
            refine region_skip (i := 4) (d := some 71) rfl rfl (by kernel_rfl) (by kernel_rfl) (by kernel_rfl) (fun _ _ _ h => h) (by kernel_rfl) (by assumption) ?_
            try simp only [Act.put, List.setIfInBounds_toArray, List.set_cons_zero, List.set_cons_succ]
            refine region_skip (i := 5) (d := some 72) rfl rfl (by kernel_rfl) (by kernel_rfl) (by kernel_rfl) (fun _ _ _ h => h) (by kernel_rfl) (by assumption) ?_
            try simp only [Act.put, List.setIfInBounds_toArray, List.set_cons_zero, List.set_cons_succ]
            refine region_skip (i := 6) (d := some 73) rfl rfl (by kernel_rfl) (by kernel_rfl) (by kernel_rfl) (fun _ _ _ h => h) (by kernel_rfl) (by assumption) ?_
            try simp only [Act.put, List.setIfInBounds_toArray, List.set_cons_zero, List.set_cons_succ]
            refine region_skip (i := 7) (d := some 74) rfl rfl (by kernel_rfl) (by kernel_rfl) (by kernel_rfl) (fun _ _ _ h => h) (by kernel_rfl) (by assumption) ?_
            try simp only [Act.put, List.setIfInBounds_toArray, List.set_cons_zero, List.set_cons_succ]
            refine region_skip (i := 8) (d := some 75) rfl rfl (by kernel_rfl) (by kernel_rfl) (by kernel_rfl) (fun _ _ _ h => h) (by kernel_rfl) (by assumption) ?_
            try simp only [Act.put, List.setIfInBounds_toArray, List.set_cons_zero, List.set_cons_succ]
            refine region_skip (i := 9) (d := some 76) rfl rfl (by kernel_rfl) (by kernel_rfl) (by kernel_rfl) (fun _ _ _ h => h) (by kernel_rfl) (by assumption) ?_
            try simp only [Act.put, List.setIfInBounds_toArray, List.set_cons_zero, List.set_cons_succ]
            refine region_skip (i := 10) (d := some 77) rfl rfl (by kernel_rfl) (by kernel_rfl) (by kernel_rfl) (fun _ _ _ h => h) (by kernel_rfl) (by assumption) ?_
            try simp only [Act.put, List.setIfInBounds_toArray, List.set_cons_zero, List.set_cons_succ]
            refine region_skip (i := 11) (d := some 78) rfl rfl (by kernel_rfl) (by kernel_rfl) (by kernel_rfl) (fun _ _ _ h => h) (by kernel_rfl) (by assumption) ?_
            try simp only [Act.put, List.setIfInBounds_toArray, List.set_cons_zero, List.set_cons_succ]
            refine region_skip (i := 12) (d := some 79) rfl rfl (by kernel_rfl) (by kernel_rfl) (by kernel_rfl) (fun _ _ _ h => h) (by kernel_rfl) (by assumption) ?_
            try simp only [Act.put, List.setIfInBounds_toArray, List.set_cons_zero, List.set_cons_succ]
            refine region_take (i := 13) (d := some 80) (v := .bool false) rfl rfl (by kernel_rfl) (by kernel_rfl) (by kernel_rfl) (fun _ _ _ h => h) (by kernel_rfl) (by (intro w hSw; go_simp)) (by assumption) ?_
            try simp only [Act.put, List.setIfInBounds_toArray, List.set_cons_zero, List.set_cons_succ]
            refine wpAnyH_done (by kernel_rfl) ?_ _
            go_split_ands
            have hw4 : Below wm.heap.size wm w9 := by assumption
            have K4 := Lib.hid hw4
            generalize w9 = w4 at K4 ⊢
            clear hw4
            rcases cmpZ_cases z k with ⟨h1, h2⟩ | ⟨h1, h2⟩ | ⟨h1, h2⟩
            · obtain rfl : r = -1 := by rw [← Hr.out]; exact h2
              rcases cmpZ_cases k l with ⟨h3, h4⟩ | ⟨h3, h4⟩ | ⟨h3, h4⟩
              · rw [h4] at Hbc
                obtain ⟨q, hq, hq0⟩ : ∃ q, cmpZ z l = q ∧ q ≤ 0 := ⟨_, rfl, by unfold cmpZ; split <;> (try split) <;> omega⟩
                rw [hq] at Hac
                clear hq
                clear h1 h2 h3 h4
                have c10 := (V1.out.keep K4.out).c0
                have c11 := (V1.out.keep K4.out).c1
                have c20 := (V2.out.keep K4.out).c0
                have c21 := (V2.out.keep K4.out).c1
                have c00 := (V0.out.keep K4.out).c0
                have c01 := (V0.out.keep K4.out).c1
                go_wp2_with fail
                refine (Hbc.out _ (three_start V0 V1 V2 K4.out)).mono ?_
                rintro e w5 ⟨rfl, h5⟩
                have K5 := Lib.hid (below_on K4.out h5)
                clear h5 c10 c11 c20 c21 c00 c01
                have c20 := (V2.out.keep K5.out).c0
                have c21 := (V2.out.keep K5.out).c1
                have c00 := (V0.out.keep K5.out).c0
                have c01 := (V0.out.keep K5.out).c1
                go_wp2_with fail
                refine (Hac.out _ (three_start V0 V1 V2 K5.out)).mono ?_
                rintro e w6 ⟨rfl, h6⟩
                have K6 := Lib.hid (below_on K5.out h6)
                clear h6
                go_wp2
                go_ret
                exact ⟨rfl, below_on K2.out K6.out⟩
              · rw [h4] at Hbc
                obtain ⟨q, hq, hq0⟩ : ∃ q, cmpZ z l = q ∧ q ≤ 0 := ⟨_, rfl, by unfold cmpZ; split <;> (try split) <;> omega⟩
                rw [hq] at Hac
                clear hq
                clear h1 h2 h3 h4
                have c10 := (V1.out.keep K4.out).c0
                have c11 := (V1.out.keep K4.out).c1
                have c20 := (V2.out.keep K4.out).c0
                have c21 := (V2.out.keep K4.out).c1
                have c00 := (V0.out.keep K4.out).c0
                have c01 := (V0.out.keep K4.out).c1
                go_wp2_with fail
                refine (Hbc.out _ (three_start V0 V1 V2 K4.out)).mono ?_
                rintro e w5 ⟨rfl, h5⟩
                have K5 := Lib.hid (below_on K4.out h5)
                clear h5 c10 c11 c20 c21 c00 c01
                have c20 := (V2.out.keep K5.out).c0
                have c21 := (V2.out.keep K5.out).c1
                have c00 := (V0.out.keep K5.out).c0
                have c01 := (V0.out.keep K5.out).c1
                go_wp2_with fail
                refine (Hac.out _ (three_start V0 V1 V2 K5.out)).mono ?_
                rintro e w6 ⟨rfl, h6⟩
                have K6 := Lib.hid (below_on K5.out h6)
                clear h6
                go_wp2
                go_ret
                exact ⟨rfl, below_on K2.out K6.out⟩
              · rw [h4] at Hbc
                clear h1 h2 h3 h4
                have c10 := (V1.out.keep K4.out).c0
                have c11 := (V1.out.keep K4.out).c1
                have c20 := (V2.out.keep K4.out).c0
                have c21 := (V2.out.keep K4.out).c1
                have c00 := (V0.out.keep K4.out).c0
                have c01 := (V0.out.keep K4.out).c1
                go_wp2_with fail
                refine (Hbc.out _ (three_start V0 V1 V2 K4.out)).mono ?_
                rintro e w5 ⟨rfl, h5⟩
                have K5 := Lib.hid (below_on K4.out h5)
                clear h5
                go_wp2
                go_ret
                exact ⟨rfl, below_on K2.out K5.out⟩
            · obtain rfl : r = 0 := by rw [← Hr.out]; exact h2
              rcases cmpZ_cases k l with ⟨h3, h4⟩ | ⟨h3, h4⟩ | ⟨h3, h4⟩
              · rw [h4] at Hbc
                obtain ⟨q, hq, hq0⟩ : ∃ q, cmpZ z l = q ∧ q ≤ 0 := ⟨_, rfl, by unfold cmpZ; split <;> (try split) <;> omega⟩
                rw [hq] at Hac
                clear hq
                clear h1 h2 h3 h4
                have c10 := (V1.out.keep K4.out).c0
                have c11 := (V1.out.keep K4.out).c1
                have c20 := (V2.out.keep K4.out).c0
                have c21 := (V2.out.keep K4.out).c1
                have c00 := (V0.out.keep K4.out).c0
                have c01 := (V0.out.keep K4.out).c1
                go_wp2_with fail
                refine (Hbc.out _ (three_start V0 V1 V2 K4.out)).mono ?_
                rintro e w5 ⟨rfl, h5⟩
                have K5 := Lib.hid (below_on K4.out h5)
                clear h5 c10 c11 c20 c21 c00 c01
                have c20 := (V2.out.keep K5.out).c0
                have c21 := (V2.out.keep K5.out).c1
                have c00 := (V0.out.keep K5.out).c0
                have c01 := (V0.out.keep K5.out).c1
                go_wp2_with fail
                refine (Hac.out _ (three_start V0 V1 V2 K5.out)).mono ?_
                rintro e w6 ⟨rfl, h6⟩
                have K6 := Lib.hid (below_on K5.out h6)
                clear h6
                go_wp2
                go_ret
                exact ⟨rfl, below_on K2.out K6.out⟩
              · rw [h4] at Hbc
                obtain ⟨q, hq, hq0⟩ : ∃ q, cmpZ z l = q ∧ q ≤ 0 := ⟨_, rfl, by unfold cmpZ; split <;> (try split) <;> omega⟩
                rw [hq] at Hac
                clear hq
                clear h1 h2 h3 h4
                have c10 := (V1.out.keep K4.out).c0
                have c11 := (V1.out.keep K4.out).c1
                have c20 := (V2.out.keep K4.out).c0
                have c21 := (V2.out.keep K4.out).c1
                have c00 := (V0.out.keep K4.out).c0
                have c01 := (V0.out.keep K4.out).c1
                go_wp2_with fail
                refine (Hbc.out _ (three_start V0 V1 V2 K4.out)).mono ?_
                rintro e w5 ⟨rfl, h5⟩
                have K5 := Lib.hid (below_on K4.out h5)
                clear h5 c10 c11 c20 c21 c00 c01
                have c20 := (V2.out.keep K5.out).c0
                have c21 := (V2.out.keep K5.out).c1
                have c00 := (V0.out.keep K5.out).c0
                have c01 := (V0.out.keep K5.out).c1
                go_wp2_with fail
                refine (Hac.out _ (three_start V0 V1 V2 K5.out)).mono ?_
                rintro e w6 ⟨rfl, h6⟩
                have K6 := Lib.hid (below_on K5.out h6)
                clear h6
                go_wp2
                go_ret
                exact ⟨rfl, below_on K2.out K6.out⟩
              · rw [h4] at Hbc
                clear h1 h2 h3 h4
                have c10 := (V1.out.keep K4.out).c0
                have c11 := (V1.out.keep K4.out).c1
                have c20 := (V2.out.keep K4.out).c0
                have c21 := (V2.out.keep K4.out).c1
                have c00 := (V0.out.keep K4.out).c0
                have c01 := (V0.out.keep K4.out).c1
                go_wp2_with fail
                refine (Hbc.out _ (three_start V0 V1 V2 K4.out)).mono ?_
                rintro e w5 ⟨rfl, h5⟩
                have K5 := Lib.hid (below_on K4.out h5)
                clear h5
                go_wp2
                go_ret
                exact ⟨rfl, below_on K2.out K5.out⟩
            · obtain rfl : r = 1 := by rw [← Hr.out]; exact h2
              clear h1 h2
              go_wp2
              go_ret
              exact ⟨rfl, below_on K2.out K4.out⟩
end Go.Proofs.YtegndbiglehacaaDoor
