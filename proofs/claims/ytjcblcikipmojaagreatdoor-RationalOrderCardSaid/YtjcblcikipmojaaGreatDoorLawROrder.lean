/- The law RationalOrder: its walk. -/
import Derived.Test.YtjcblcikipmojaaGreatDoorSimp
import Derived.Test.YtjcblcikipmojaaGreatDoorMinMax
namespace Go.Proofs.YtjcblcikipmojaaGreatDoor
open Go.RowKit

theorem cmpR_spec (p q : Rat) : (p < q ∧ cmpR p q = -1) ∨ (p = q ∧ cmpR p q = 0) ∨ (q < p ∧ cmpR p q = 1) := by
  unfold cmpR cmpZ
  rcases Int.lt_trichotomy (p.num * (q.den : Int)) (q.num * (p.den : Int)) with h | h | h
  · exact .inl ⟨(Rat.lt_iff p q).2 h, by rw [if_pos h]⟩
  · refine .inr (.inl ⟨Rat.le_antisymm ((Rat.le_iff p q).2 (by omega)) ((Rat.le_iff q p).2 (by omega)), by rw [if_neg (by omega), if_neg (by omega)]⟩)
  · exact .inr (.inr ⟨(Rat.lt_iff q p).2 h, by rw [if_neg (by omega), if_pos h]⟩)
theorem rat_lt_not {p q : Rat} (h : p < q) : ¬ q < p := by
  rw [Rat.lt_iff] at h ⊢
  omega
theorem rat_lt_ne {p q : Rat} (h : p < q) : p ≠ q := by
  intro e
  rw [e] at h
  exact rat_lt_not h h
theorem cmpR_of_lt {p q : Rat} (h : p < q) : cmpR p q = -1 := by
  rcases cmpR_spec p q with h1 | h1 | h1
  · exact h1.2
  · exact absurd h1.1 (rat_lt_ne h)
  · exact absurd h1.1 (rat_lt_not h)
theorem cmpR_of_gt {p q : Rat} (h : q < p) : cmpR p q = 1 := by
  rcases cmpR_spec p q with h1 | h1 | h1
  · exact absurd h1.1 (rat_lt_not h)
  · exact absurd h1.1.symm (rat_lt_ne h)
  · exact h1.2
theorem cmpR_of_eq {p q : Rat} (h : p = q) : cmpR p q = 0 := by
  rcases cmpR_spec p q with h1 | h1 | h1
  · exact absurd h (rat_lt_ne h1.1)
  · exact h1.2
  · exact absurd h.symm (rat_lt_ne h1.1)
theorem cmpR_same {p q p' q' : Rat} (h1 : p < q → p' < q') (h2 : p = q → p' = q') (h3 : q < p → q' < p') : cmpR p' q' = cmpR p q := by
  rcases cmpR_spec p q with h | h | h
  · rw [h.2, cmpR_of_lt (h1 h.1)]
  · rw [h.2, cmpR_of_eq (h2 h.1)]
  · rw [h.2, cmpR_of_gt (h3 h.1)]
theorem rat_add_lt {p q : Rat} (r : Rat) (h : p < q) : p + r < q + r := by
  rw [Rat.lt_iff_sub_pos] at h ⊢
  have e : q + r - (p + r) = q - p := by
    rw [Rat.sub_eq_add_neg, Rat.sub_eq_add_neg, Rat.neg_add, Rat.add_assoc, Rat.add_comm (-p) (-r), ← Rat.add_assoc r, Rat.add_neg_cancel, Rat.zero_add]
  rw [e]
  exact h
theorem cmpR_add (p q r : Rat) : cmpR (p + r) (q + r) = cmpR p q := cmpR_same (rat_add_lt r) (fun h => by rw [h]) (rat_add_lt r)
theorem rat_num_pos {x : Rat} : 0 < x ↔ 0 < x.num := by
  rw [Rat.lt_iff]
  show 0 * (x.den : Int) < x.num * 1 ↔ _
  omega
theorem cmpR_mul {r : Rat} (p q : Rat) (hr : 0 < r.num) : cmpR (p * r) (q * r) = cmpR p q := by
  have h := rat_num_pos.2 hr
  exact cmpR_same (fun h1 => (Rat.mul_lt_mul_right h).2 h1) (fun h => by rw [h]) (fun h1 => (Rat.mul_lt_mul_right h).2 h1)
theorem sgn_sub_rat (p q : Rat) : sgn (p - q).num = cmpR p q := by
  have e : q - p = -(p - q) := by rw [Rat.neg_sub]
  rcases cmpR_spec p q with h | h | h
  · have h1 := rat_num_pos.1 ((Rat.lt_iff_sub_pos p q).1 h.1)
    rw [e, Rat.neg_num] at h1
    rw [h.2]
    unfold sgn
    rw [if_pos (by omega)]
  · rw [h.2, h.1, Rat.sub_self]
    rfl
  · have h1 := rat_num_pos.1 ((Rat.lt_iff_sub_pos q p).1 h.1)
    rw [h.2]
    unfold sgn
    rw [if_neg (by omega), if_pos h1]
theorem cmpR_le_iff (p q : Rat) : cmpR p q ≤ 0 ↔ p ≤ q := by
  unfold cmpR cmpZ
  rw [Rat.le_iff]
  split
  · omega
  · split <;> omega
theorem cmpR_trans {p q r : Rat} (h1 : cmpR p q ≤ 0) (h2 : cmpR q r ≤ 0) : cmpR p r ≤ 0 := (cmpR_le_iff p r).2 (Rat.le_trans ((cmpR_le_iff p q).1 h1) ((cmpR_le_iff q r).1 h2))
def lowR (p q : Rat) : Rat := if cmpR p q ≤ 0 then p else q
def highR (p q : Rat) : Rat := if 0 ≤ cmpR p q then p else q
theorem low_high (p q : Rat) : lowR p q ≤ highR p q := by
  unfold lowR highR
  rcases cmpR_spec p q with h | h | h
  · rw [h.2, if_pos (by decide), if_neg (by decide)]
    exact (cmpR_le_iff p q).1 (by rw [h.2]; decide)
  · rw [h.2, if_pos (by decide)]
    exact Rat.le_refl
  · rw [h.2, if_neg (by decide), if_pos (by decide)]
    exact Rat.le_of_lt h.1
theorem low_few {p q : Rat} {k : Nat} (hp : Few p k) (hq : Few q k) : Few (lowR p q) k := by
  unfold lowR
  split
  · exact hp
  · exact hq
theorem high_few {p q : Rat} {k : Nat} (hp : Few p k) (hq : Few q k) : Few (highR p q) k := by
  unfold highR
  split
  · exact hp
  · exact hq
theorem cmpZ_le00 {a b : Int} (h : a ≤ b) : decide (cmpZ a b ≤ 0) = true := by
  unfold cmpZ
  split
  · decide
  · rw [if_neg (by omega)]; decide
theorem right_three (s t u : ByteArray) (w : World) (hs : s.size ≤ 9223372036854775807) (ht : t.size ≤ 9223372036854775807) (hu : u.size ≤ 9223372036854775807) :
    Calls Tryz.prog 25 #[.slice (some ⟨w.heap.size, 0, none⟩) 3 3] (w.alloc (.cells #[.string s, .string t, .string u] 9)) (RightR [s, t, u] (w.alloc (.cells #[.string s, .string t, .string u] 9))) :=
  rright_any [s, t, u] w.heap.size 3 _ rfl (by decide) (by decide) (by simp) (fun k x h => by
    match k, h with
    | 0, h => simp at h; subst h; simp [go_sem]
    | 1, h => simp at h; subst h; simp [go_sem]
    | 2, h => simp at h; subst h; simp [go_sem]) (fun x h => by
    rcases List.mem_cons.1 h with rfl | h
    · exact hs
    rcases List.mem_cons.1 h with rfl | h
    · exact ht
    · rw [List.mem_singleton.1 h]; exact hu)
set_option maxRecDepth 100000 in
set_option maxHeartbeats 16000000 in
theorem rationalOrder_walk (s t u : ByteArray) (w : World) (hs : s.size ≤ 9223372036854775807) (ht : t.size ≤ 9223372036854775807) (hu : u.size ≤ 9223372036854775807) (hw : Good w) :
    Calls Tryz.prog 12 #[.string s, .string t, .string u] w fun e w' => e = .returned (.bool true) ∧ Below w.heap.size w w' := by
  have Hw := Lib.hid (fun w' (h : Below w.heap.size w w') => hw.below h)
  have Hk := Lib.hid (known2_true w hw)
  clear hw
  go_enter Tryz.func12, Tryz.ntmps12
  go_wp2_with fail
  refine Hk.out.mono ?_
  rintro e w1 ⟨rfl, h1⟩
  have k1 := Lib.hid h1
  have HR := Lib.hid (right_three s t u w1 hs ht hu)
  clear h1
  go_wp2_with fail
  refine HR.out.mono ?_
  rintro e w2 ⟨⟨b0, rfl, hb0⟩, h2⟩
  have k2 := Lib.hid (below_on (below_on k1.out ((Below.refl _ _).alloc (Nat.le_refl _) _)) h2)
  have Hk2 := Lib.hid (known2_true w2 (Hw.out _ k2.out))
  have Hb0 := Lib.hid hb0
  clear h2 hb0
  cases b0 with
  | false =>
    go_wp2_with fail
    refine Hk2.out.mono ?_
    rintro e w3 ⟨rfl, h2⟩
    have k3 := Lib.hid (below_on k2.out h2)
    clear h2
    go_wp2
    go_ret
    exact ⟨rfl, k3.out⟩
  | true =>
    obtain ⟨p, hp⟩ := Hb0.out rfl s (List.mem_cons_self ..)
    obtain ⟨q, hq⟩ := Hb0.out rfl t (List.mem_cons_of_mem _ (List.mem_cons_self ..))
    obtain ⟨r, hr⟩ := Hb0.out rfl u (List.mem_cons_of_mem _ (List.mem_cons_of_mem _ (List.mem_cons_self ..)))
    have Fp := Lib.hid hp.few
    have Fq := Lib.hid hq.few
    have Fr := Lib.hid hr.few
    have HRp := Lib.hid (fun w' hg => rread_any hp w' hg)
    have HRq := Lib.hid (fun w' hg => rread_any hq w' hg)
    have HRr := Lib.hid (fun w' hg => rread_any hr w' hg)
    clear hp hq hr Hb0
    go_wp2_with fail
    refine (HRp.out _ (Hw.out _ k2.out)).mono ?_
    rintro e w3 ⟨a, P, b, Q, rfl, hv, h3⟩
    have K3 := Lib.hid (below_on k2.out h3)
    have Hv := Lib.hid hv
    clear hv h3
    go_wp2_with fail
    refine (HRq.out _ (Hw.out _ K3.out)).mono ?_
    rintro e w4 ⟨c, U, d, V, rfl, hv, h4⟩
    have K4 := Lib.hid (below_on K3.out h4)
    have Hv := Lib.hid (Hv.out.keep h4)
    have Hu := Lib.hid hv
    clear hv h4
    go_wp2_with fail
    refine (HRr.out _ (Hw.out _ K4.out)).mono ?_
    rintro e w5 ⟨f, M, g, N, rfl, hv, h5⟩
    have kv := (Below.refl w5.heap.size w5).alloc (Nat.le_refl _) (.cells #[.int .i64 a, .pointer P, .int .i64 b, .pointer Q] 27)
    have kv2 := kv.alloc (by simp) (.cells #[.int .i64 c, .pointer U, .int .i64 d, .pointer V] 27)
    have kv3 := kv2.alloc (by simp; omega) (.cells #[.int .i64 f, .pointer M, .int .i64 g, .pointer N] 27)
    have V7 := Lib.hid (((VarR.new (Hv.out.keep h5)).keep ((Below.refl _ _).alloc (Nat.le_refl _) (.cells #[.int .i64 c, .pointer U, .int .i64 d, .pointer V] 27))).keep ((Below.refl _ _).alloc (Nat.le_refl _) (.cells #[.int .i64 f, .pointer M, .int .i64 g, .pointer N] 27)))
    have V8 := Lib.hid ((VarR.new ((Hu.out.keep h5).keep kv)).keep ((Below.refl _ _).alloc (Nat.le_refl _) (.cells #[.int .i64 f, .pointer M, .int .i64 g, .pointer N] 27)))
    have V9 := Lib.hid (VarR.new (hv.keep kv2))
    have K5 := Lib.hid (below_on (below_on K4.out h5) kv3)
    simp only [World.size_alloc] at V8 V9
    obtain ⟨wm, hwm⟩ : ∃ x, ((w5.alloc (.cells #[.int .i64 a, .pointer P, .int .i64 b, .pointer Q] 27)).alloc (.cells #[.int .i64 c, .pointer U, .int .i64 d, .pointer V] 27)).alloc (.cells #[.int .i64 f, .pointer M, .int .i64 g, .pointer N] 27) = x := ⟨_, rfl⟩
    rw [hwm] at V7 V8 V9 K5
    obtain ⟨p7, hp7⟩ : ∃ p, w5.heap.size = p := ⟨_, rfl⟩
    rw [hp7] at V7 V8 V9
    clear hv h5 kv kv2 kv3 Hv Hu K4 K3
    obtain ⟨cn, hcn⟩ : ∃ cn, cmpR p q = cn := ⟨_, rfl⟩
    have HC0 := Lib.hid (rcmp_any a P b Q c U d V p q wm V7.out.rat V8.out.rat (Fp.out.n47 (by decide)) (Fp.out.d47 (by decide)) (Fq.out.n47 (by decide)) (Fq.out.d47 (by decide)))
    rw [hcn] at HC0
    have Hcn := Lib.hid hcn
    clear hcn
    have c0 := V7.out.cells.c0
    have c1 := V7.out.cells.c1
    have c2 := V7.out.cells.c2
    have c3 := V7.out.cells.c3
    have i0 := V8.out.cells.c0
    have i1 := V8.out.cells.c1
    have i2 := V8.out.cells.c2
    have i3 := V8.out.cells.c3
    go_wp2_with fail
    try simp only [hwm, hp7]
    refine HC0.out.mono ?_
    rintro e wn ⟨rfl, g1⟩
    replace V7 := Lib.hid (V7.out.keep g1)
    replace V8 := Lib.hid (V8.out.keep g1)
    replace V9 := Lib.hid (V9.out.keep g1)
    replace K5 := Lib.hid (below_on K5.out g1)
    clear g1 c0 c1 c2 c3 i0 i1 i2 i3 HC0
    have F1 := Lib.hid (Fp.out.add Fr.out)
    have F2 := Lib.hid (Fq.out.add Fr.out)
    have HSb := Lib.hid (fun w' (hb : Below wn.heap.size wn w') => rsub_any a P b Q c U d V (p) (q) w' (V7.out.keep hb).rat (V8.out.keep hb).rat (Fp.out.n47 (by decide)) (Fp.out.d47 (by decide)) (Fq.out.n47 (by decide)) (Fq.out.d47 (by decide)) (Hw.out _ (below_on K5.out hb)))
    have HA1 := Lib.hid (fun w' (hb : Below wn.heap.size wn w') => radd_any a P b Q f M g N (p) (r) w' (V7.out.keep hb).rat (V9.out.keep hb).rat (Fp.out.n47 (by decide)) (Fp.out.d47 (by decide)) (Fr.out.n47 (by decide)) (Fr.out.d47 (by decide)) (Hw.out _ (below_on K5.out hb)))
    have HA2 := Lib.hid (fun w' (hb : Below wn.heap.size wn w') => radd_any c U d V f M g N (q) (r) w' (V8.out.keep hb).rat (V9.out.keep hb).rat (Fq.out.n47 (by decide)) (Fq.out.d47 (by decide)) (Fr.out.n47 (by decide)) (Fr.out.d47 (by decide)) (Hw.out _ (below_on K5.out hb)))
    have HSg := Lib.hid (fun x0 X0 y0 Y0 w' (h0 : RatV w' x0 X0 y0 Y0 (p - q)) => rsign_any x0 X0 y0 Y0 (p - q) w' h0)
    rw [sgn_sub_rat p q, Hcn.out] at HSg
    have HC1 := Lib.hid (fun x0 X0 y0 Y0 x1 X1 y1 Y1 w' (h0 : RatV w' x0 X0 y0 Y0 (p + r)) (h1 : RatV w' x1 X1 y1 Y1 (q + r)) => rcmp_any x0 X0 y0 Y0 x1 X1 y1 Y1 (p + r) (q + r) w' h0 h1 (F1.out.n47 (by decide)) (F1.out.d47 (by decide)) (F2.out.n47 (by decide)) (F2.out.d47 (by decide)))
    rw [cmpR_add p q r, Hcn.out] at HC1
    generalize p - q = z1 at HSb HSg
    generalize p + r = z2 at HA1 HC1 F1
    generalize q + r = z3 at HA2 HC1 F2
    have HS := Lib.hid (fun w' (hb : Below wn.heap.size wn w') => (⟨⟨(V7.out.keep hb).cells.c0, (V7.out.keep hb).cells.c1, (V7.out.keep hb).cells.c2, (V7.out.keep hb).cells.c3, (V8.out.keep hb).cells.c0, (V8.out.keep hb).cells.c1, (V8.out.keep hb).cells.c2, (V8.out.keep hb).cells.c3, (V9.out.keep hb).cells.c0, (V9.out.keep hb).cells.c1, (V9.out.keep hb).cells.c2, (V9.out.keep hb).cells.c3⟩, hb⟩ : (w'.cell? ⟨p7, 0, none⟩ = some (.int .i64 a) ∧ w'.cell? ⟨p7, 1, none⟩ = some (.pointer P) ∧ w'.cell? ⟨p7, 2, none⟩ = some (.int .i64 b) ∧ w'.cell? ⟨p7, 3, none⟩ = some (.pointer Q) ∧ w'.cell? ⟨p7 + 1, 0, none⟩ = some (.int .i64 c) ∧ w'.cell? ⟨p7 + 1, 1, none⟩ = some (.pointer U) ∧ w'.cell? ⟨p7 + 1, 2, none⟩ = some (.int .i64 d) ∧ w'.cell? ⟨p7 + 1, 3, none⟩ = some (.pointer V) ∧ w'.cell? ⟨p7 + 1 + 1, 0, none⟩ = some (.int .i64 f) ∧ w'.cell? ⟨p7 + 1 + 1, 1, none⟩ = some (.pointer M) ∧ w'.cell? ⟨p7 + 1 + 1, 2, none⟩ = some (.int .i64 g) ∧ w'.cell? ⟨p7 + 1 + 1, 3, none⟩ = some (.pointer N)) ∧ Below wn.heap.size wn w'))
    have HB := Lib.hid (fun w' (h : (w'.cell? ⟨p7, 0, none⟩ = some (.int .i64 a) ∧ w'.cell? ⟨p7, 1, none⟩ = some (.pointer P) ∧ w'.cell? ⟨p7, 2, none⟩ = some (.int .i64 b) ∧ w'.cell? ⟨p7, 3, none⟩ = some (.pointer Q) ∧ w'.cell? ⟨p7 + 1, 0, none⟩ = some (.int .i64 c) ∧ w'.cell? ⟨p7 + 1, 1, none⟩ = some (.pointer U) ∧ w'.cell? ⟨p7 + 1, 2, none⟩ = some (.int .i64 d) ∧ w'.cell? ⟨p7 + 1, 3, none⟩ = some (.pointer V) ∧ w'.cell? ⟨p7 + 1 + 1, 0, none⟩ = some (.int .i64 f) ∧ w'.cell? ⟨p7 + 1 + 1, 1, none⟩ = some (.pointer M) ∧ w'.cell? ⟨p7 + 1 + 1, 2, none⟩ = some (.int .i64 g) ∧ w'.cell? ⟨p7 + 1 + 1, 3, none⟩ = some (.pointer N)) ∧ Below wn.heap.size wn w') => h.2)
    have HK := Lib.hid (fun w' wx (h : (w'.cell? ⟨p7, 0, none⟩ = some (.int .i64 a) ∧ w'.cell? ⟨p7, 1, none⟩ = some (.pointer P) ∧ w'.cell? ⟨p7, 2, none⟩ = some (.int .i64 b) ∧ w'.cell? ⟨p7, 3, none⟩ = some (.pointer Q) ∧ w'.cell? ⟨p7 + 1, 0, none⟩ = some (.int .i64 c) ∧ w'.cell? ⟨p7 + 1, 1, none⟩ = some (.pointer U) ∧ w'.cell? ⟨p7 + 1, 2, none⟩ = some (.int .i64 d) ∧ w'.cell? ⟨p7 + 1, 3, none⟩ = some (.pointer V) ∧ w'.cell? ⟨p7 + 1 + 1, 0, none⟩ = some (.int .i64 f) ∧ w'.cell? ⟨p7 + 1 + 1, 1, none⟩ = some (.pointer M) ∧ w'.cell? ⟨p7 + 1 + 1, 2, none⟩ = some (.int .i64 g) ∧ w'.cell? ⟨p7 + 1 + 1, 3, none⟩ = some (.pointer N)) ∧ Below wn.heap.size wn w') (hb : Below w'.heap.size w' wx) => HS.out _ (below_on h.2 hb))
    go_upto_region 5 with fail
    go_cut [51] (fun s wx => s = .bool false ∧ Below wn.heap.size wn wx)
    case first =>
      go_region_held3 (fun w' => (w'.cell? ⟨p7, 0, none⟩ = some (.int .i64 a) ∧ w'.cell? ⟨p7, 1, none⟩ = some (.pointer P) ∧ w'.cell? ⟨p7, 2, none⟩ = some (.int .i64 b) ∧ w'.cell? ⟨p7, 3, none⟩ = some (.pointer Q) ∧ w'.cell? ⟨p7 + 1, 0, none⟩ = some (.int .i64 c) ∧ w'.cell? ⟨p7 + 1, 1, none⟩ = some (.pointer U) ∧ w'.cell? ⟨p7 + 1, 2, none⟩ = some (.int .i64 d) ∧ w'.cell? ⟨p7 + 1, 3, none⟩ = some (.pointer V) ∧ w'.cell? ⟨p7 + 1 + 1, 0, none⟩ = some (.int .i64 f) ∧ w'.cell? ⟨p7 + 1 + 1, 1, none⟩ = some (.pointer M) ∧ w'.cell? ⟨p7 + 1 + 1, 2, none⟩ = some (.int .i64 g) ∧ w'.cell? ⟨p7 + 1 + 1, 3, none⟩ = some (.pointer N)) ∧ Below wn.heap.size wn w')
        (first
          | assumption
          | exact HS.out _ (Below.refl _ _).drew
          | exact HK.out _ _ (by assumption) (by assumption)
          | exact HK.out _ _ (by assumption) ((Below.refl _ _).alloc (Nat.le_refl _) _))
        (first
          | (go_at_call 39; refine (HSb.out _ (HB.out _ (by assumption))).mono ?_; rintro e w' ⟨x1, X1, y1, Y1, rfl, hv1, hb⟩)
          | (go_at_call 30; refine (HSg.out _ _ _ _ _ (by assumption)).mono ?_; rintro e w' ⟨rfl, hb⟩)
          | (go_at_call_of 37 P; refine (HA1.out _ (HB.out _ (by assumption))).mono ?_; rintro e w' ⟨x2, X2, y2, Y2, rfl, hv2, hb⟩)
          | (go_at_call_of 37 U; refine (HA2.out _ (HB.out _ (by assumption))).mono ?_; rintro e w' ⟨x3, X3, y3, Y3, rfl, hv3, hb⟩; (try have hv2 := hv2.keep hb))
          | (go_at_call 49; refine (HC1.out _ _ _ _ _ _ _ _ _ (by assumption) (by assumption)).mono ?_; rintro e w' ⟨rfl, hb⟩))
      go_split_ands
      have hw3 : Below wn.heap.size wn w' := by assumption
      have J := Lib.hid hw3
      go_wp2_with fail
      go_meet
      exact ⟨rfl, J.out⟩
    case rest =>
      obtain ⟨rfl, hb⟩ := hcut
      replace V7 := Lib.hid (V7.out.keep hb)
      replace V8 := Lib.hid (V8.out.keep hb)
      replace V9 := Lib.hid (V9.out.keep hb)
      replace K5 := Lib.hid (below_on K5.out hb)
      clear hb HS HB HK
      generalize wc = wo at *
      clear HSb HA1 HA2 HSg HC1 F1 F2
      have G1 := Lib.hid (Fp.out.mul Fr.out)
      have G2 := Lib.hid (Fq.out.mul Fr.out)
      have HSr := Lib.hid (fun w' (hb : Below wo.heap.size wo w') => rsign_any f M g N r w' (V9.out.keep hb).rat)
      have HM1 := Lib.hid (fun w' (hb : Below wo.heap.size wo w') => rmul_any a P b Q f M g N (p) (r) w' (V7.out.keep hb).rat (V9.out.keep hb).rat (Fp.out.n47 (by decide)) (Fp.out.d47 (by decide)) (Fr.out.n47 (by decide)) (Fr.out.d47 (by decide)) (Hw.out _ (below_on K5.out hb)))
      have HM2 := Lib.hid (fun w' (hb : Below wo.heap.size wo w') => rmul_any c U d V f M g N (q) (r) w' (V8.out.keep hb).rat (V9.out.keep hb).rat (Fq.out.n47 (by decide)) (Fq.out.d47 (by decide)) (Fr.out.n47 (by decide)) (Fr.out.d47 (by decide)) (Hw.out _ (below_on K5.out hb)))
      have HC2 := Lib.hid (fun x0 X0 y0 Y0 x1 X1 y1 Y1 w' (h0 : RatV w' x0 X0 y0 Y0 (p * r)) (h1 : RatV w' x1 X1 y1 Y1 (q * r)) => rcmp_any x0 X0 y0 Y0 x1 X1 y1 Y1 (p * r) (q * r) w' h0 h1 (G1.out.n47 (by decide)) (G1.out.d47 (by decide)) (G2.out.n47 (by decide)) (G2.out.d47 (by decide)))
      have HS := Lib.hid (fun w' (hb : Below wo.heap.size wo w') => (⟨⟨(V7.out.keep hb).cells.c0, (V7.out.keep hb).cells.c1, (V7.out.keep hb).cells.c2, (V7.out.keep hb).cells.c3, (V8.out.keep hb).cells.c0, (V8.out.keep hb).cells.c1, (V8.out.keep hb).cells.c2, (V8.out.keep hb).cells.c3, (V9.out.keep hb).cells.c0, (V9.out.keep hb).cells.c1, (V9.out.keep hb).cells.c2, (V9.out.keep hb).cells.c3⟩, hb⟩ : (w'.cell? ⟨p7, 0, none⟩ = some (.int .i64 a) ∧ w'.cell? ⟨p7, 1, none⟩ = some (.pointer P) ∧ w'.cell? ⟨p7, 2, none⟩ = some (.int .i64 b) ∧ w'.cell? ⟨p7, 3, none⟩ = some (.pointer Q) ∧ w'.cell? ⟨p7 + 1, 0, none⟩ = some (.int .i64 c) ∧ w'.cell? ⟨p7 + 1, 1, none⟩ = some (.pointer U) ∧ w'.cell? ⟨p7 + 1, 2, none⟩ = some (.int .i64 d) ∧ w'.cell? ⟨p7 + 1, 3, none⟩ = some (.pointer V) ∧ w'.cell? ⟨p7 + 1 + 1, 0, none⟩ = some (.int .i64 f) ∧ w'.cell? ⟨p7 + 1 + 1, 1, none⟩ = some (.pointer M) ∧ w'.cell? ⟨p7 + 1 + 1, 2, none⟩ = some (.int .i64 g) ∧ w'.cell? ⟨p7 + 1 + 1, 3, none⟩ = some (.pointer N)) ∧ Below wo.heap.size wo w'))
      have HB := Lib.hid (fun w' (h : (w'.cell? ⟨p7, 0, none⟩ = some (.int .i64 a) ∧ w'.cell? ⟨p7, 1, none⟩ = some (.pointer P) ∧ w'.cell? ⟨p7, 2, none⟩ = some (.int .i64 b) ∧ w'.cell? ⟨p7, 3, none⟩ = some (.pointer Q) ∧ w'.cell? ⟨p7 + 1, 0, none⟩ = some (.int .i64 c) ∧ w'.cell? ⟨p7 + 1, 1, none⟩ = some (.pointer U) ∧ w'.cell? ⟨p7 + 1, 2, none⟩ = some (.int .i64 d) ∧ w'.cell? ⟨p7 + 1, 3, none⟩ = some (.pointer V) ∧ w'.cell? ⟨p7 + 1 + 1, 0, none⟩ = some (.int .i64 f) ∧ w'.cell? ⟨p7 + 1 + 1, 1, none⟩ = some (.pointer M) ∧ w'.cell? ⟨p7 + 1 + 1, 2, none⟩ = some (.int .i64 g) ∧ w'.cell? ⟨p7 + 1 + 1, 3, none⟩ = some (.pointer N)) ∧ Below wo.heap.size wo w') => h.2)
      have HK := Lib.hid (fun w' wx (h : (w'.cell? ⟨p7, 0, none⟩ = some (.int .i64 a) ∧ w'.cell? ⟨p7, 1, none⟩ = some (.pointer P) ∧ w'.cell? ⟨p7, 2, none⟩ = some (.int .i64 b) ∧ w'.cell? ⟨p7, 3, none⟩ = some (.pointer Q) ∧ w'.cell? ⟨p7 + 1, 0, none⟩ = some (.int .i64 c) ∧ w'.cell? ⟨p7 + 1, 1, none⟩ = some (.pointer U) ∧ w'.cell? ⟨p7 + 1, 2, none⟩ = some (.int .i64 d) ∧ w'.cell? ⟨p7 + 1, 3, none⟩ = some (.pointer V) ∧ w'.cell? ⟨p7 + 1 + 1, 0, none⟩ = some (.int .i64 f) ∧ w'.cell? ⟨p7 + 1 + 1, 1, none⟩ = some (.pointer M) ∧ w'.cell? ⟨p7 + 1 + 1, 2, none⟩ = some (.int .i64 g) ∧ w'.cell? ⟨p7 + 1 + 1, 3, none⟩ = some (.pointer N)) ∧ Below wo.heap.size wo w') (hb : Below w'.heap.size w' wx) => HS.out _ (below_on h.2 hb))
      go_upto_region 7 with fail
      go_cut [65] (fun s wx => s = .bool false ∧ Below wo.heap.size wo wx)
      case first =>
        obtain ⟨sr, hsr⟩ : ∃ sr, sgn r.num = sr := ⟨_, rfl⟩
        rw [hsr] at HSr
        by_cases hr : 0 < r.num
        · have t1 : decide (0 < sr) = true := by rw [← hsr]; unfold sgn; rw [if_neg (by omega), if_pos hr]; decide
          rw [cmpR_mul p q hr, Hcn.out] at HC2
          clear hr hsr
          generalize p * r = z1 at HM1 HC2 G1
          generalize q * r = z2 at HM2 HC2 G2
          go_region_held3 (fun w' => (w'.cell? ⟨p7, 0, none⟩ = some (.int .i64 a) ∧ w'.cell? ⟨p7, 1, none⟩ = some (.pointer P) ∧ w'.cell? ⟨p7, 2, none⟩ = some (.int .i64 b) ∧ w'.cell? ⟨p7, 3, none⟩ = some (.pointer Q) ∧ w'.cell? ⟨p7 + 1, 0, none⟩ = some (.int .i64 c) ∧ w'.cell? ⟨p7 + 1, 1, none⟩ = some (.pointer U) ∧ w'.cell? ⟨p7 + 1, 2, none⟩ = some (.int .i64 d) ∧ w'.cell? ⟨p7 + 1, 3, none⟩ = some (.pointer V) ∧ w'.cell? ⟨p7 + 1 + 1, 0, none⟩ = some (.int .i64 f) ∧ w'.cell? ⟨p7 + 1 + 1, 1, none⟩ = some (.pointer M) ∧ w'.cell? ⟨p7 + 1 + 1, 2, none⟩ = some (.int .i64 g) ∧ w'.cell? ⟨p7 + 1 + 1, 3, none⟩ = some (.pointer N)) ∧ Below wo.heap.size wo w')
            (first
              | assumption
              | exact HS.out _ (Below.refl _ _).drew
              | exact HK.out _ _ (by assumption) (by assumption)
              | exact HK.out _ _ (by assumption) ((Below.refl _ _).alloc (Nat.le_refl _) _))
            (first
              | (go_at_call 30; refine (HSr.out _ (HB.out _ (by assumption))).mono ?_; rintro e w' ⟨rfl, hb⟩)
              | (go_at_call_of 46 P; refine (HM1.out _ (HB.out _ (by assumption))).mono ?_; rintro e w' ⟨x2, X2, y2, Y2, rfl, hv2, hb⟩)
              | (go_at_call_of 46 U; refine (HM2.out _ (HB.out _ (by assumption))).mono ?_; rintro e w' ⟨x3, X3, y3, Y3, rfl, hv3, hb⟩; (try have hv2 := hv2.keep hb))
              | (go_at_call 49; refine (HC2.out _ _ _ _ _ _ _ _ _ (by assumption) (by assumption)).mono ?_; rintro e w' ⟨rfl, hb⟩))
          go_split_ands
          have hw3 : Below wo.heap.size wo w' := by assumption
          have J := Lib.hid hw3
          go_wp2_with fail
          go_meet
          exact ⟨rfl, J.out⟩
        · have t1 : decide (0 < sr) = false := by
            rw [← hsr]; unfold sgn
            by_cases h : r.num < 0
            · rw [if_pos h]; decide
            · rw [if_neg h, if_neg hr]; decide
          clear hr hsr HC2 HM1 HM2 HS HB HK
          have C9 := Lib.hid V9.out.cells
          have HS := Lib.hid (fun w' (hb : Below wo.heap.size wo w') => (⟨(C9.out.keep hb).c0, (C9.out.keep hb).c1, (C9.out.keep hb).c2, (C9.out.keep hb).c3⟩ : w'.cell? ⟨p7 + 1 + 1, 0, none⟩ = some (.int .i64 f) ∧ w'.cell? ⟨p7 + 1 + 1, 1, none⟩ = some (.pointer M) ∧ w'.cell? ⟨p7 + 1 + 1, 2, none⟩ = some (.int .i64 g) ∧ w'.cell? ⟨p7 + 1 + 1, 3, none⟩ = some (.pointer N)))
          refine Till.begin 1 (fun w' => w'.cell? ⟨p7 + 1 + 1, 0, none⟩ = some (.int .i64 f) ∧ w'.cell? ⟨p7 + 1 + 1, 1, none⟩ = some (.pointer M) ∧ w'.cell? ⟨p7 + 1 + 1, 2, none⟩ = some (.int .i64 g) ∧ w'.cell? ⟨p7 + 1 + 1, 3, none⟩ = some (.pointer N)) (by kernel_rfl) (HS.out _ (Below.refl _ _).drew) (fun hH => ?_)
          refine Till.tk 0 1 52 (.agg #[.int .i64 f, .pointer M, .int .i64 g, .pointer N]) hH ?_
          try simp only [Act.put, List.setIfInBounds_toArray, List.set_cons_zero, List.set_cons_succ]
          clear hH
          have B0 := Lib.hid (Below.refl wo.heap.size wo).drew
          generalize wo.drew = v0 at B0 ⊢
          refine Till.one (i := 1) (by kernel_rfl) rfl (fun K hK => ?_)
          go_simp
          refine (HSr.out _ B0.out).mono ?_
          rintro e v1 ⟨rfl, g1⟩
          replace B0 := Lib.hid (below_on B0.out g1)
          clear g1
          go_wp2_with fail
          refine hK.out _ _ (fun h => absurd h (by simp)) ?_
          clear hK K
          try simp only [Act.put, List.setIfInBounds_toArray, List.set_cons_zero, List.set_cons_succ]
          refine Till.one (i := 2) (by kernel_rfl) rfl (fun K hK => ?_)
          go_simp
          refine hK.out _ _ (fun h => absurd h (by simp)) ?_
          clear hK K
          try simp only [Act.put, List.setIfInBounds_toArray, List.set_cons_zero, List.set_cons_succ]
          refine Till.one (i := 3) (by kernel_rfl) rfl (fun K hK => ?_)
          go_simp
          refine hK.out _ _ (fun h => absurd h (by simp)) ?_
          clear hK K
          try simp only [Act.put, List.setIfInBounds_toArray, List.set_cons_zero, List.set_cons_succ]
          refine Till.phaseP [4, 5, 6, 7, 8, 9, 10, 11, 12, 13] #[true, true, true, true, true, true, true, true, true, true, true, true, true, true] 0 (fun a0 dn an v => ∃ t4 t5 t6 t7 t8 t9 t10 t11 t12 t13 : Value, an = puts a0 [(56, t4), (57, t5), (58, t6), (59, t7), (60, t8), (61, t9), (62, t10), (63, t11), (64, t12), (65, t13)] ∧ Below wo.heap.size wo v ∧ (dn 4 = true → t4 = undef) ∧ (dn 5 = true → t5 = undef) ∧ (dn 6 = true → t6 = undef) ∧ (dn 7 = true → t7 = undef) ∧ (dn 8 = true → t8 = undef) ∧ (dn 9 = true → t9 = undef) ∧ (dn 10 = true → t10 = undef) ∧ (dn 11 = true → t11 = undef) ∧ (dn 12 = true → t12 = undef) ∧ (dn 13 = true → t13 = .bool false)) rfl (by kernel_rfl) (by rintro dn an v ⟨_, _, _, _, _, _, _, _, _, _, rfl, hB, _⟩; exact HS.out _ hB) ⟨u56, u57, u58, u59, u60, u61, u62, u63, u64, u65, (by kernel_rfl), B0.out, (fun h => absurd h (by decide)), (fun h => absurd h (by decide)), (fun h => absurd h (by decide)), (fun h => absurd h (by decide)), (fun h => absurd h (by decide)), (fun h => absurd h (by decide)), (fun h => absurd h (by decide)), (fun h => absurd h (by decide)), (fun h => absurd h (by decide)), (fun h => absurd h (by decide))⟩ ⟨⟨_, rfl, ?_⟩, ⟨_, rfl, ?_⟩, ⟨_, rfl, ?_⟩, ⟨_, rfl, ?_⟩, ⟨_, rfl, ?_⟩, ⟨_, rfl, ?_⟩, ⟨_, rfl, ?_⟩, ⟨_, rfl, ?_⟩, ⟨_, rfl, ?_⟩, ⟨_, rfl, ?_⟩, trivial⟩ ?_
          · rintro dn an v ⟨t4, t5, t6, t7, t8, t9, t10, t11, t12, t13, rfl, hB, F4, F5, F6, F7, F8, F9, F10, F11, F12, F13⟩ hi ha K hK
            replace hB := Lib.hid hB
            replace F4 := Lib.hid F4
            replace F5 := Lib.hid F5
            replace F6 := Lib.hid F6
            replace F7 := Lib.hid F7
            replace F8 := Lib.hid F8
            replace F9 := Lib.hid F9
            replace F10 := Lib.hid F10
            replace F11 := Lib.hid F11
            replace F12 := Lib.hid F12
            replace F13 := Lib.hid F13
            clear ha
            refine Pent.mk ?_
            try simp only [puts, Act.put, List.setIfInBounds_toArray, List.set_cons_zero, List.set_cons_succ]
            have g := Lib.hid (Below.refl v.heap.size v)
            go_simp
            exact hK.out _ _ ⟨undef, t5, t6, t7, t8, t9, t10, t11, t12, t13, (by kernel_rfl), below_on hB.out g.out, fun _ => rfl, fun h => F5.out h, fun h => F6.out h, fun h => F7.out h, fun h => F8.out h, fun h => F9.out h, fun h => F10.out h, fun h => F11.out h, fun h => F12.out h, fun h => F13.out h⟩
          · rintro dn an v ⟨t4, t5, t6, t7, t8, t9, t10, t11, t12, t13, rfl, hB, F4, F5, F6, F7, F8, F9, F10, F11, F12, F13⟩ hi ha K hK
            replace hB := Lib.hid hB
            replace F4 := Lib.hid F4
            replace F5 := Lib.hid F5
            replace F6 := Lib.hid F6
            replace F7 := Lib.hid F7
            replace F8 := Lib.hid F8
            replace F9 := Lib.hid F9
            replace F10 := Lib.hid F10
            replace F11 := Lib.hid F11
            replace F12 := Lib.hid F12
            replace F13 := Lib.hid F13
            clear ha
            refine Pent.mk ?_
            try simp only [puts, Act.put, List.setIfInBounds_toArray, List.set_cons_zero, List.set_cons_succ]
            have g := Lib.hid (Below.refl v.heap.size v)
            go_simp
            exact hK.out _ _ ⟨t4, undef, t6, t7, t8, t9, t10, t11, t12, t13, (by kernel_rfl), below_on hB.out g.out, fun h => F4.out h, fun _ => rfl, fun h => F6.out h, fun h => F7.out h, fun h => F8.out h, fun h => F9.out h, fun h => F10.out h, fun h => F11.out h, fun h => F12.out h, fun h => F13.out h⟩
          · rintro dn an v ⟨t4, t5, t6, t7, t8, t9, t10, t11, t12, t13, rfl, hB, F4, F5, F6, F7, F8, F9, F10, F11, F12, F13⟩ hi ha K hK
            have e4 := F4 (ha 4 (by kernel_rfl))
            subst e4
            have e5 := F5 (ha 5 (by kernel_rfl))
            subst e5
            replace hB := Lib.hid hB
            replace F4 := Lib.hid F4
            replace F5 := Lib.hid F5
            replace F6 := Lib.hid F6
            replace F7 := Lib.hid F7
            replace F8 := Lib.hid F8
            replace F9 := Lib.hid F9
            replace F10 := Lib.hid F10
            replace F11 := Lib.hid F11
            replace F12 := Lib.hid F12
            replace F13 := Lib.hid F13
            clear ha
            refine Pent.mk ?_
            try simp only [puts, Act.put, List.setIfInBounds_toArray, List.set_cons_zero, List.set_cons_succ]
            have g := Lib.hid (Below.refl v.heap.size v)
            go_simp
            exact hK.out _ _ ⟨undef, undef, undef, t7, t8, t9, t10, t11, t12, t13, (by kernel_rfl), below_on hB.out g.out, fun _ => rfl, fun _ => rfl, fun _ => rfl, fun h => F7.out h, fun h => F8.out h, fun h => F9.out h, fun h => F10.out h, fun h => F11.out h, fun h => F12.out h, fun h => F13.out h⟩
          · rintro dn an v ⟨t4, t5, t6, t7, t8, t9, t10, t11, t12, t13, rfl, hB, F4, F5, F6, F7, F8, F9, F10, F11, F12, F13⟩ hi ha K hK
            replace hB := Lib.hid hB
            replace F4 := Lib.hid F4
            replace F5 := Lib.hid F5
            replace F6 := Lib.hid F6
            replace F7 := Lib.hid F7
            replace F8 := Lib.hid F8
            replace F9 := Lib.hid F9
            replace F10 := Lib.hid F10
            replace F11 := Lib.hid F11
            replace F12 := Lib.hid F12
            replace F13 := Lib.hid F13
            clear ha
            refine Pent.mk ?_
            try simp only [puts, Act.put, List.setIfInBounds_toArray, List.set_cons_zero, List.set_cons_succ]
            have g := Lib.hid (Below.refl v.heap.size v)
            go_simp
            exact hK.out _ _ ⟨t4, t5, t6, undef, t8, t9, t10, t11, t12, t13, (by kernel_rfl), below_on hB.out g.out, fun h => F4.out h, fun h => F5.out h, fun h => F6.out h, fun _ => rfl, fun h => F8.out h, fun h => F9.out h, fun h => F10.out h, fun h => F11.out h, fun h => F12.out h, fun h => F13.out h⟩
          · rintro dn an v ⟨t4, t5, t6, t7, t8, t9, t10, t11, t12, t13, rfl, hB, F4, F5, F6, F7, F8, F9, F10, F11, F12, F13⟩ hi ha K hK
            replace hB := Lib.hid hB
            replace F4 := Lib.hid F4
            replace F5 := Lib.hid F5
            replace F6 := Lib.hid F6
            replace F7 := Lib.hid F7
            replace F8 := Lib.hid F8
            replace F9 := Lib.hid F9
            replace F10 := Lib.hid F10
            replace F11 := Lib.hid F11
            replace F12 := Lib.hid F12
            replace F13 := Lib.hid F13
            clear ha
            refine Pent.mk ?_
            try simp only [puts, Act.put, List.setIfInBounds_toArray, List.set_cons_zero, List.set_cons_succ]
            have g := Lib.hid (Below.refl v.heap.size v)
            go_simp
            exact hK.out _ _ ⟨t4, t5, t6, t7, undef, t9, t10, t11, t12, t13, (by kernel_rfl), below_on hB.out g.out, fun h => F4.out h, fun h => F5.out h, fun h => F6.out h, fun h => F7.out h, fun _ => rfl, fun h => F9.out h, fun h => F10.out h, fun h => F11.out h, fun h => F12.out h, fun h => F13.out h⟩
          · rintro dn an v ⟨t4, t5, t6, t7, t8, t9, t10, t11, t12, t13, rfl, hB, F4, F5, F6, F7, F8, F9, F10, F11, F12, F13⟩ hi ha K hK
            have e6 := F6 (ha 6 (by kernel_rfl))
            subst e6
            have e7 := F7 (ha 7 (by kernel_rfl))
            subst e7
            have e8 := F8 (ha 8 (by kernel_rfl))
            subst e8
            replace hB := Lib.hid hB
            replace F4 := Lib.hid F4
            replace F5 := Lib.hid F5
            replace F6 := Lib.hid F6
            replace F7 := Lib.hid F7
            replace F8 := Lib.hid F8
            replace F9 := Lib.hid F9
            replace F10 := Lib.hid F10
            replace F11 := Lib.hid F11
            replace F12 := Lib.hid F12
            replace F13 := Lib.hid F13
            clear ha
            refine Pent.mk ?_
            try simp only [puts, Act.put, List.setIfInBounds_toArray, List.set_cons_zero, List.set_cons_succ]
            have g := Lib.hid (Below.refl v.heap.size v)
            go_simp
            exact hK.out _ _ ⟨t4, t5, undef, undef, undef, undef, t10, t11, t12, t13, (by kernel_rfl), below_on hB.out g.out, fun h => F4.out h, fun h => F5.out h, fun _ => rfl, fun _ => rfl, fun _ => rfl, fun _ => rfl, fun h => F10.out h, fun h => F11.out h, fun h => F12.out h, fun h => F13.out h⟩
          · rintro dn an v ⟨t4, t5, t6, t7, t8, t9, t10, t11, t12, t13, rfl, hB, F4, F5, F6, F7, F8, F9, F10, F11, F12, F13⟩ hi ha K hK
            have e6 := F6 (ha 6 (by kernel_rfl))
            subst e6
            have e9 := F9 (ha 9 (by kernel_rfl))
            subst e9
            replace hB := Lib.hid hB
            replace F4 := Lib.hid F4
            replace F5 := Lib.hid F5
            replace F6 := Lib.hid F6
            replace F7 := Lib.hid F7
            replace F8 := Lib.hid F8
            replace F9 := Lib.hid F9
            replace F10 := Lib.hid F10
            replace F11 := Lib.hid F11
            replace F12 := Lib.hid F12
            replace F13 := Lib.hid F13
            clear ha
            refine Pent.mk ?_
            try simp only [puts, Act.put, List.setIfInBounds_toArray, List.set_cons_zero, List.set_cons_succ]
            have g := Lib.hid (Below.refl v.heap.size v)
            go_simp
            exact hK.out _ _ ⟨t4, t5, undef, t7, t8, undef, undef, t11, t12, t13, (by kernel_rfl), below_on hB.out g.out, fun h => F4.out h, fun h => F5.out h, fun _ => rfl, fun h => F7.out h, fun h => F8.out h, fun _ => rfl, fun _ => rfl, fun h => F11.out h, fun h => F12.out h, fun h => F13.out h⟩
          · rintro dn an v ⟨t4, t5, t6, t7, t8, t9, t10, t11, t12, t13, rfl, hB, F4, F5, F6, F7, F8, F9, F10, F11, F12, F13⟩ hi ha K hK
            replace hB := Lib.hid hB
            replace F4 := Lib.hid F4
            replace F5 := Lib.hid F5
            replace F6 := Lib.hid F6
            replace F7 := Lib.hid F7
            replace F8 := Lib.hid F8
            replace F9 := Lib.hid F9
            replace F10 := Lib.hid F10
            replace F11 := Lib.hid F11
            replace F12 := Lib.hid F12
            replace F13 := Lib.hid F13
            clear ha
            refine Pent.mk ?_
            try simp only [puts, Act.put, List.setIfInBounds_toArray, List.set_cons_zero, List.set_cons_succ]
            have g := Lib.hid (Below.refl v.heap.size v)
            go_simp
            exact hK.out _ _ ⟨t4, t5, t6, t7, t8, t9, t10, undef, t12, t13, (by kernel_rfl), below_on hB.out g.out, fun h => F4.out h, fun h => F5.out h, fun h => F6.out h, fun h => F7.out h, fun h => F8.out h, fun h => F9.out h, fun h => F10.out h, fun _ => rfl, fun h => F12.out h, fun h => F13.out h⟩
          · rintro dn an v ⟨t4, t5, t6, t7, t8, t9, t10, t11, t12, t13, rfl, hB, F4, F5, F6, F7, F8, F9, F10, F11, F12, F13⟩ hi ha K hK
            have e10 := F10 (ha 10 (by kernel_rfl))
            subst e10
            have e11 := F11 (ha 11 (by kernel_rfl))
            subst e11
            replace hB := Lib.hid hB
            replace F4 := Lib.hid F4
            replace F5 := Lib.hid F5
            replace F6 := Lib.hid F6
            replace F7 := Lib.hid F7
            replace F8 := Lib.hid F8
            replace F9 := Lib.hid F9
            replace F10 := Lib.hid F10
            replace F11 := Lib.hid F11
            replace F12 := Lib.hid F12
            replace F13 := Lib.hid F13
            clear ha
            refine Pent.mk ?_
            try simp only [puts, Act.put, List.setIfInBounds_toArray, List.set_cons_zero, List.set_cons_succ]
            have g := Lib.hid (Below.refl v.heap.size v)
            go_simp
            exact hK.out _ _ ⟨t4, t5, t6, t7, t8, t9, undef, undef, undef, t13, (by kernel_rfl), below_on hB.out g.out, fun h => F4.out h, fun h => F5.out h, fun h => F6.out h, fun h => F7.out h, fun h => F8.out h, fun h => F9.out h, fun _ => rfl, fun _ => rfl, fun _ => rfl, fun h => F13.out h⟩
          · rintro dn an v ⟨t4, t5, t6, t7, t8, t9, t10, t11, t12, t13, rfl, hB, F4, F5, F6, F7, F8, F9, F10, F11, F12, F13⟩ hi ha K hK
            have e12 := F12 (ha 12 (by kernel_rfl))
            subst e12
            replace hB := Lib.hid hB
            replace F4 := Lib.hid F4
            replace F5 := Lib.hid F5
            replace F6 := Lib.hid F6
            replace F7 := Lib.hid F7
            replace F8 := Lib.hid F8
            replace F9 := Lib.hid F9
            replace F10 := Lib.hid F10
            replace F11 := Lib.hid F11
            replace F12 := Lib.hid F12
            replace F13 := Lib.hid F13
            clear ha
            refine Pent.mk ?_
            try simp only [puts, Act.put, List.setIfInBounds_toArray, List.set_cons_zero, List.set_cons_succ]
            have g := Lib.hid (Below.refl v.heap.size v)
            go_simp
            exact hK.out _ _ ⟨t4, t5, t6, t7, t8, t9, t10, t11, undef, .bool false, (by kernel_rfl), below_on hB.out g.out, fun h => F4.out h, fun h => F5.out h, fun h => F6.out h, fun h => F7.out h, fun h => F8.out h, fun h => F9.out h, fun h => F10.out h, fun h => F11.out h, fun _ => rfl, fun _ => rfl⟩
          · rintro dn an v ⟨t4, t5, t6, t7, t8, t9, t10, t11, t12, t13, rfl, hB, F4, F5, F6, F7, F8, F9, F10, F11, F12, F13⟩ hE
            have e4 := F4 (hE 4 (by decide))
            subst e4
            have e5 := F5 (hE 5 (by decide))
            subst e5
            have e6 := F6 (hE 6 (by decide))
            subst e6
            have e7 := F7 (hE 7 (by decide))
            subst e7
            have e8 := F8 (hE 8 (by decide))
            subst e8
            have e9 := F9 (hE 9 (by decide))
            subst e9
            have e10 := F10 (hE 10 (by decide))
            subst e10
            have e11 := F11 (hE 11 (by decide))
            subst e11
            have e12 := F12 (hE 12 (by decide))
            subst e12
            have e13 := F13 (hE 13 (by decide))
            subst e13
            clear hE F4 F5 F6 F7 F8 F9 F10 F11 F12 F13
            replace hB := Lib.hid hB
            refine Pent.mk ?_
            try simp only [puts, Act.put, List.setIfInBounds_toArray, List.set_cons_zero, List.set_cons_succ]
            refine Till.done (by kernel_rfl) ?_ _
            go_wp2_with fail
            go_meet
            exact ⟨rfl, hB.out⟩
      case rest =>
        obtain ⟨rfl, hb⟩ := hcut
        replace V7 := Lib.hid (V7.out.keep hb)
        replace V8 := Lib.hid (V8.out.keep hb)
        replace V9 := Lib.hid (V9.out.keep hb)
        replace K5 := Lib.hid (below_on K5.out hb)
        clear hb HS HB HK HSr HM1 HM2 HC2 G1 G2
        generalize wc = wp at *
        have HC3 := Lib.hid (fun w' (hb : Below wp.heap.size wp w') => rcmp_any c U d V f M g N q r w' (V8.out.keep hb).rat (V9.out.keep hb).rat (Fq.out.n47 (by decide)) (Fq.out.d47 (by decide)) (Fr.out.n47 (by decide)) (Fr.out.d47 (by decide)))
        have HC4 := Lib.hid (fun w' (hb : Below wp.heap.size wp w') => rcmp_any a P b Q f M g N p r w' (V7.out.keep hb).rat (V9.out.keep hb).rat (Fp.out.n47 (by decide)) (Fp.out.d47 (by decide)) (Fr.out.n47 (by decide)) (Fr.out.d47 (by decide)))
        obtain ⟨c3, hc3⟩ : ∃ z, cmpR q r = z := ⟨_, rfl⟩
        obtain ⟨c4, hc4⟩ : ∃ z, cmpR p r = z := ⟨_, rfl⟩
        have Ht := Lib.hid (show cn ≤ 0 → c3 ≤ 0 → c4 ≤ 0 by rw [← Hcn.out, ← hc3, ← hc4]; exact fun h1 h2 => cmpR_trans h1 h2)
        rw [hc3] at HC3
        rw [hc4] at HC4
        clear hc3 hc4
        go_upto_region 9 with fail
        go_cut [79] (fun s wx => s = .bool false ∧ Below wp.heap.size wp wx)
        case first =>
          by_cases h1 : cn ≤ 0
          · have t1 : decide (cn ≤ 0) = true := decide_eq_true h1
            have c0 := V8.out.cells.c0
            have c1 := V8.out.cells.c1
            have c2 := V8.out.cells.c2
            have c3_ := V8.out.cells.c3
            have i0 := V9.out.cells.c0
            have i1 := V9.out.cells.c1
            have i2 := V9.out.cells.c2
            have i3 := V9.out.cells.c3
            go_wp2_with fail
            refine (HC3.out _ (Below.refl _ _)).mono ?_
            rintro e w1' ⟨rfl, g1⟩
            have L1 := Lib.hid g1
            clear c0 c1 c2 c3_ i0 i1 i2 i3
            by_cases h2 : c3 ≤ 0
            · have t2 : decide (c3 ≤ 0) = true := decide_eq_true h2
              have t3 : decide (0 < c4) = false := decide_eq_false (by have := Ht.out h1 h2; omega)
              replace V7 := Lib.hid (V7.out.keep g1)
              replace V9 := Lib.hid (V9.out.keep g1)
              clear g1 h1 h2
              have c0 := V7.out.cells.c0
              have c1 := V7.out.cells.c1
              have c2 := V7.out.cells.c2
              have c3_ := V7.out.cells.c3
              have i0 := V9.out.cells.c0
              have i1 := V9.out.cells.c1
              have i2 := V9.out.cells.c2
              have i3 := V9.out.cells.c3
              go_wp2_with fail
              refine (HC4.out _ L1.out).mono ?_
              rintro e w2' ⟨rfl, g1⟩
              have L2 := Lib.hid (below_on L1.out g1)
              clear g1
              go_wp2_with fail
              go_meet
              exact ⟨rfl, L2.out⟩
            · have t2 : decide (c3 ≤ 0) = false := decide_eq_false h2
              clear g1 h1 h2
              go_wp2_with fail
              go_meet
              exact ⟨rfl, L1.out⟩
          · have t1 : decide (cn ≤ 0) = false := decide_eq_false h1
            clear h1
            go_wp2_with fail
            go_meet
            exact ⟨rfl, Below.refl _ _⟩
        case rest =>
          obtain ⟨rfl, hb⟩ := hcut
          replace V7 := Lib.hid (V7.out.keep hb)
          replace V8 := Lib.hid (V8.out.keep hb)
          replace V9 := Lib.hid (V9.out.keep hb)
          replace K5 := Lib.hid (below_on K5.out hb)
          clear hb HC3 HC4 Ht
          generalize wc = wq at *
          have C7 := Lib.hid V7.out.cells
          have C8 := Lib.hid V8.out.cells
          have HMn := Lib.hid (fun w' (hb : Below wq.heap.size wq w') => show Calls Tryz.prog 51 _ w' (NewRat (lowR p q) w') from rmin_any a P b Q c U d V p q w' (V7.out.keep hb).rat (V8.out.keep hb).rat (Fp.out.n47 (by decide)) (Fp.out.d47 (by decide)) (Fq.out.n47 (by decide)) (Fq.out.d47 (by decide)))
          have HMx := Lib.hid (fun w' (hb : Below wq.heap.size wq w') => show Calls Tryz.prog 53 _ w' (NewRat (highR p q) w') from rmax_any a P b Q c U d V p q w' (V7.out.keep hb).rat (V8.out.keep hb).rat (Fp.out.n47 (by decide)) (Fp.out.d47 (by decide)) (Fq.out.n47 (by decide)) (Fq.out.d47 (by decide)))
          have Fl := Lib.hid (low_few Fp.out Fq.out)
          have Fh := Lib.hid (high_few Fp.out Fq.out)
          have Hlh := Lib.hid (low_high p q)
          generalize lowR p q = ql at HMn Fl Hlh
          generalize highR p q = qh at HMx Fh Hlh
          have HS := Lib.hid (fun w' (hb : Below wq.heap.size wq w') => (⟨(C7.out.keep hb).c0, (C7.out.keep hb).c1, (C7.out.keep hb).c2, (C7.out.keep hb).c3, (C8.out.keep hb).c0, (C8.out.keep hb).c1, (C8.out.keep hb).c2, (C8.out.keep hb).c3⟩ : w'.cell? ⟨p7, 0, none⟩ = some (.int .i64 a) ∧ w'.cell? ⟨p7, 1, none⟩ = some (.pointer P) ∧ w'.cell? ⟨p7, 2, none⟩ = some (.int .i64 b) ∧ w'.cell? ⟨p7, 3, none⟩ = some (.pointer Q) ∧ w'.cell? ⟨p7 + 1, 0, none⟩ = some (.int .i64 c) ∧ w'.cell? ⟨p7 + 1, 1, none⟩ = some (.pointer U) ∧ w'.cell? ⟨p7 + 1, 2, none⟩ = some (.int .i64 d) ∧ w'.cell? ⟨p7 + 1, 3, none⟩ = some (.pointer V)))
          go_upto_region 11 with fail
          go_cut [11, 12] (fun s s' wx => ∃ (p1 : Nat) (x : Int) (X : Option Addr) (y : Int) (Y : Option Addr) (p2 : Nat) (z : Int) (Z : Option Addr) (u : Int) (U : Option Addr), s = .pointer (some ⟨p1, 0, none⟩) ∧ s' = .pointer (some ⟨p2, 0, none⟩) ∧ VarR wx p1 x X y Y ql ∧ VarR wx p2 z Z u U qh ∧ Below wq.heap.size wq wx)
          case first =>
            refine Till.begin 9 (fun w' => w'.cell? ⟨p7, 0, none⟩ = some (.int .i64 a) ∧ w'.cell? ⟨p7, 1, none⟩ = some (.pointer P) ∧ w'.cell? ⟨p7, 2, none⟩ = some (.int .i64 b) ∧ w'.cell? ⟨p7, 3, none⟩ = some (.pointer Q) ∧ w'.cell? ⟨p7 + 1, 0, none⟩ = some (.int .i64 c) ∧ w'.cell? ⟨p7 + 1, 1, none⟩ = some (.pointer U) ∧ w'.cell? ⟨p7 + 1, 2, none⟩ = some (.int .i64 d) ∧ w'.cell? ⟨p7 + 1, 3, none⟩ = some (.pointer V)) (by kernel_rfl) (HS.out _ (Below.refl _ _).drew) (fun hH => ?_)
            refine Till.tk 0 2 80 (.agg #[.int .i64 a, .pointer P, .int .i64 b, .pointer Q]) hH ?_
            try simp only [Act.put, List.setIfInBounds_toArray, List.set_cons_zero, List.set_cons_succ]
            refine Till.tk 1 2 81 (.agg #[.int .i64 c, .pointer U, .int .i64 d, .pointer V]) hH ?_
            try simp only [Act.put, List.setIfInBounds_toArray, List.set_cons_zero, List.set_cons_succ]
            refine Till.tk 3 5 83 (.agg #[.int .i64 a, .pointer P, .int .i64 b, .pointer Q]) hH ?_
            try simp only [Act.put, List.setIfInBounds_toArray, List.set_cons_zero, List.set_cons_succ]
            refine Till.tk 4 5 84 (.agg #[.int .i64 c, .pointer U, .int .i64 d, .pointer V]) hH ?_
            try simp only [Act.put, List.setIfInBounds_toArray, List.set_cons_zero, List.set_cons_succ]
            clear hH
            have B0 := Lib.hid (Below.refl wq.heap.size wq).drew
            generalize wq.drew = v0 at B0 ⊢
            refine Till.phaseP [2, 5, 6, 7] #[true, true, true, true, true, true, true, true, false, false] 2 (fun a0 dn an v => ∃ t2 t5 t6 t7 : Value, an = puts a0 [(82, t2), (85, t5), (11, t6), (12, t7)] ∧ Below wq.heap.size wq v ∧ (dn 2 = true → RatAt v t2 (ql)) ∧ (dn 5 = true → RatAt v t5 (qh)) ∧ (dn 6 = true → PtrR wq.heap.size v t6) ∧ (dn 7 = true → PtrR wq.heap.size v t7) ∧ (dn 6 = true → dn 7 = true → t6 ≠ t7)) rfl (by kernel_rfl) (by rintro dn an v ⟨_, _, _, _, rfl, hB, _⟩; exact HS.out _ hB) ⟨u82, u85, undef, undef, (by kernel_rfl), B0.out, (fun h => absurd h (by decide)), (fun h => absurd h (by decide)), (fun h => absurd h (by decide)), (fun h => absurd h (by decide)), (fun h => absurd h (by decide))⟩ ⟨⟨_, rfl, ?_⟩, ⟨_, rfl, ?_⟩, ⟨_, rfl, ?_⟩, ⟨_, rfl, ?_⟩, trivial⟩ ?_
            · rintro dn an v ⟨t2, t5, t6, t7, rfl, hB, F2, F5, F6, F7, D6_7⟩ hi ha K hK
              replace hB := Lib.hid hB
              replace F2 := Lib.hid F2
              replace F5 := Lib.hid F5
              replace F6 := Lib.hid F6
              replace F7 := Lib.hid F7
              replace D6_7 := Lib.hid D6_7
              clear ha
              refine Pent.mk ?_
              try simp only [puts, Act.put, List.setIfInBounds_toArray, List.set_cons_zero, List.set_cons_succ]
              go_simp
              refine (HMn.out _ hB.out).mono ?_
              rintro e v1 ⟨x2, X2, y2, Y2, rfl, hx, g⟩
              replace hx := Lib.hid hx
              replace g := Lib.hid g
              go_wp2_with fail
              exact hK.out _ _ ⟨.agg #[.int .i64 x2, .pointer X2, .int .i64 y2, .pointer Y2], t5, t6, t7, (by kernel_rfl), below_on hB.out g.out, fun _ => ⟨x2, X2, y2, Y2, rfl, hx.out⟩, fun h => (F5.out h).keep g.out, fun h => (F6.out h).keep g.out, fun h => (F7.out h).keep g.out, fun h h2 => D6_7.out h h2⟩
            · rintro dn an v ⟨t2, t5, t6, t7, rfl, hB, F2, F5, F6, F7, D6_7⟩ hi ha K hK
              obtain ⟨x2, X2, y2, Y2, rfl, I2⟩ := F2 (ha 2 (by kernel_rfl))
              replace hB := Lib.hid hB
              replace F2 := Lib.hid F2
              replace F5 := Lib.hid F5
              replace F6 := Lib.hid F6
              replace F7 := Lib.hid F7
              replace I2 := Lib.hid I2
              replace D6_7 := Lib.hid D6_7
              clear ha
              refine Pent.mk ?_
              try simp only [puts, Act.put, List.setIfInBounds_toArray, List.set_cons_zero, List.set_cons_succ]
              go_simp
              refine (HMx.out _ hB.out).mono ?_
              rintro e v1 ⟨x5, X5, y5, Y5, rfl, hx, g⟩
              replace hx := Lib.hid hx
              replace g := Lib.hid g
              go_wp2_with fail
              exact hK.out _ _ ⟨.agg #[.int .i64 x2, .pointer X2, .int .i64 y2, .pointer Y2], .agg #[.int .i64 x5, .pointer X5, .int .i64 y5, .pointer Y5], t6, t7, (by kernel_rfl), below_on hB.out g.out, fun h => (F2.out h).keep g.out, fun _ => ⟨x5, X5, y5, Y5, rfl, hx.out⟩, fun h => (F6.out h).keep g.out, fun h => (F7.out h).keep g.out, fun h h2 => D6_7.out h h2⟩
            · rintro dn an v ⟨t2, t5, t6, t7, rfl, hB, F2, F5, F6, F7, D6_7⟩ hi ha K hK
              replace hB := Lib.hid hB
              replace F2 := Lib.hid F2
              replace F5 := Lib.hid F5
              replace F6 := Lib.hid F6
              replace F7 := Lib.hid F7
              replace D6_7 := Lib.hid D6_7
              clear ha
              refine Pent.mk ?_
              try simp only [puts, Act.put, List.setIfInBounds_toArray, List.set_cons_zero, List.set_cons_succ]
              have g := Lib.hid ((Below.refl v.heap.size v).alloc (Nat.le_refl _) (.cells #[.int .i64 0, .pointer none, .int .i64 0, .pointer none] 27))
              go_simp
              exact hK.out _ _ ⟨t2, t5, .pointer (some ⟨v.heap.size, 0, none⟩), t7, (by kernel_rfl), below_on hB.out g.out, fun h => (F2.out h).keep g.out, fun h => (F5.out h).keep g.out, fun _ => ⟨v.heap.size, rfl, hB.out.size, Cells.new v _ _⟩, fun h => (F7.out h).keep g.out, fun _ h => ((F7.out h).ne).symm⟩
            · rintro dn an v ⟨t2, t5, t6, t7, rfl, hB, F2, F5, F6, F7, D6_7⟩ hi ha K hK
              replace hB := Lib.hid hB
              replace F2 := Lib.hid F2
              replace F5 := Lib.hid F5
              replace F6 := Lib.hid F6
              replace F7 := Lib.hid F7
              replace D6_7 := Lib.hid D6_7
              clear ha
              refine Pent.mk ?_
              try simp only [puts, Act.put, List.setIfInBounds_toArray, List.set_cons_zero, List.set_cons_succ]
              have g := Lib.hid ((Below.refl v.heap.size v).alloc (Nat.le_refl _) (.cells #[.int .i64 0, .pointer none, .int .i64 0, .pointer none] 27))
              go_simp
              exact hK.out _ _ ⟨t2, t5, t6, .pointer (some ⟨v.heap.size, 0, none⟩), (by kernel_rfl), below_on hB.out g.out, fun h => (F2.out h).keep g.out, fun h => (F5.out h).keep g.out, fun h => (F6.out h).keep g.out, fun _ => ⟨v.heap.size, rfl, hB.out.size, Cells.new v _ _⟩, fun h _ => (F6.out h).ne⟩
            · rintro dn an v ⟨t2, t5, t6, t7, rfl, hB, F2, F5, F6, F7, D6_7⟩ hE
              obtain ⟨x2, X2, y2, Y2, rfl, I2⟩ := F2 (hE 2 (by decide))
              obtain ⟨x5, X5, y5, Y5, rfl, I5⟩ := F5 (hE 5 (by decide))
              obtain ⟨p6, rfl, le6, N6⟩ := F6 (hE 6 (by decide))
              obtain ⟨p7, rfl, le7, N7⟩ := F7 (hE 7 (by decide))
              have ne6_7 : p6 ≠ p7 := fun h => D6_7 (hE 6 (by decide)) (hE 7 (by decide)) (by rw [h])
              have ne7_6 : p7 ≠ p6 := Ne.symm ne6_7
              clear hE F2 F5 F6 F7 D6_7
              replace hB := Lib.hid hB
              replace I2 := Lib.hid I2
              replace I5 := Lib.hid I5
              replace N6 := Lib.hid N6
              replace N7 := Lib.hid N7
              refine Pent.mk ?_
              try simp only [puts, Act.put, List.setIfInBounds_toArray, List.set_cons_zero, List.set_cons_succ]
              have k60 := N6.out.c0
              have f60 := N6.out.fz 0
              have k61 := N6.out.c1
              have f61 := N6.out.fz 1
              have k62 := N6.out.c2
              have f62 := N6.out.fz 2
              have k63 := N6.out.c3
              have f63 := N6.out.fz 3
              have k70 := N7.out.c0
              have f70 := N7.out.fz 0
              have k71 := N7.out.c1
              have f71 := N7.out.fz 1
              have k72 := N7.out.c2
              have f72 := N7.out.fz 2
              have k73 := N7.out.c3
              have f73 := N7.out.fz 3
              refine Till.one (i := 8) (by kernel_rfl) rfl (fun K hK => ?_)
              go_simp
              refine hK.out _ _ (fun _ => HS.out _ (below_put4 hB.out le6 (.int .i64 x2) (.pointer X2) (.int .i64 y2) (.pointer Y2))) ?_
              clear hK K
              try simp only [List.setIfInBounds_toArray, List.set_cons_zero, List.set_cons_succ]
              refine Till.one (i := 9) (by kernel_rfl) rfl (fun K hK => ?_)
              go_simp
              refine hK.out _ _ (fun h => absurd h (by simp)) ?_
              clear hK K
              try simp only [List.setIfInBounds_toArray, List.set_cons_zero, List.set_cons_succ]
              refine Till.done (by kernel_rfl) ?_ _
              have A1 := Lib.hid (varR_put N6.out (by rfl) I2.out)
              have N2 := Lib.hid (N7.out.put4_other ne7_6 (.int .i64 x2) (.pointer X2) (.int .i64 y2) (.pointer Y2))
              have I2 := Lib.hid (I5.out.wrote N6.out (by rfl) (put4_heap v p6 (.int .i64 x2) (.pointer X2) (.int .i64 y2) (.pointer Y2)).1 (put4_heap _ _ _ _ _ _).2)
              have B2 := Lib.hid (varR_put N2.out (by rfl) I2.out)
              have A2 := Lib.hid (VarR.mk (A1.out.cells.put4_other ne6_7 (.int .i64 x5) (.pointer X5) (.int .i64 y5) (.pointer Y5)) (A1.out.rat.wrote N2.out (by rfl) (put4_heap _ p7 (.int .i64 x5) (.pointer X5) (.int .i64 y5) (.pointer Y5)).1 (put4_heap _ _ _ _ _ _).2))
              have Kf := Lib.hid (below_put4 (below_put4 hB.out le6 (.int .i64 x2) (.pointer X2) (.int .i64 y2) (.pointer Y2)) le7 (.int .i64 x5) (.pointer X5) (.int .i64 y5) (.pointer Y5))
              go_wp2_with fail
              go_meet
              exact ⟨p6, x2, X2, y2, Y2, p7, x5, X5, y5, Y5, rfl, rfl, A2.out, B2.out, Kf.out⟩
          case rest =>
            obtain ⟨p11, x11, X11, y11, Y11, p12, x12, X12, y12, Y12, rfl, rfl, hv1, hv2, hb⟩ := hcut
            have V11 := Lib.hid hv1
            have V12 := Lib.hid hv2
            replace K5 := Lib.hid (below_on K5.out hb)
            clear hv1 hv2 hb HS HMn HMx V7 V8 V9 C7 C8
            generalize wc = ws at *
            have HSi := Lib.hid (rsimplest_any x11 X11 y11 Y11 x12 X12 y12 Y12 ql qh ws V11.out.rat V12.out.rat (Fl.out.n47 (by decide)) (Fl.out.d47 (by decide)) (Fh.out.n47 (by decide)) (Fh.out.d47 (by decide)) Hlh.out)
            have c0 := V11.out.cells.c0
            have c1 := V11.out.cells.c1
            have c2 := V11.out.cells.c2
            have c3 := V11.out.cells.c3
            have i0 := V12.out.cells.c0
            have i1 := V12.out.cells.c1
            have i2 := V12.out.cells.c2
            have i3 := V12.out.cells.c3
            go_wp2_with fail
            refine HSi.out.mono ?_
            rintro e u1 ⟨m, hsm, xa, xP, xb, xQ, rfl, hv, h5⟩
            have kv := (Below.refl u1.heap.size u1).alloc (Nat.le_refl _) (.cells #[.int .i64 xa, .pointer xP, .int .i64 xb, .pointer xQ] 27)
            have V13 := Lib.hid (VarR.new hv)
            replace V11 := Lib.hid ((V11.out.keep h5).keep kv)
            replace V12 := Lib.hid ((V12.out.keep h5).keep kv)
            replace K5 := Lib.hid (below_on (below_on K5.out h5) kv)
            have Hsm := Lib.hid hsm
            clear h5 kv hv hsm c0 c1 c2 c3 i0 i1 i2 i3 HSi
            obtain ⟨wt, hwt⟩ : ∃ x, u1.alloc (.cells #[.int .i64 xa, .pointer xP, .int .i64 xb, .pointer xQ] 27) = x := ⟨_, rfl⟩
            rw [hwt] at V11 V12 V13 K5
            obtain ⟨p13, hp13⟩ : ∃ p, u1.heap.size = p := ⟨_, rfl⟩
            rw [hp13] at V13
            have l1 := Hsm.out.least ql Rat.le_refl Hlh.out
            have l2 := Hsm.out.least qh Hlh.out Rat.le_refl
            have Fm : Few m 40 := ⟨Nat.lt_of_le_of_lt l1.1 Fl.out.n, Nat.lt_of_le_of_lt l1.2 Fl.out.d⟩
            have HC5 := Lib.hid (fun w' (hb : Below wt.heap.size wt w') => rcmp_any x11 X11 y11 Y11 xa xP xb xQ ql m w' (V11.out.keep hb).rat (V13.out.keep hb).rat (Fl.out.n47 (by decide)) (Fl.out.d47 (by decide)) (Fm.n47 (by decide)) (Fm.d47 (by decide)))
            have HC6 := Lib.hid (fun w' (hb : Below wt.heap.size wt w') => rcmp_any xa xP xb xQ x12 X12 y12 Y12 m qh w' (V13.out.keep hb).rat (V12.out.keep hb).rat (Fm.n47 (by decide)) (Fm.d47 (by decide)) (Fh.out.n47 (by decide)) (Fh.out.d47 (by decide)))
            have HD1 := Lib.hid (fun w' (hb : Below wt.heap.size wt w') => den_any xa xP xb xQ m w' (V13.out.keep hb).rat)
            have HD2 := Lib.hid (fun w' (hb : Below wt.heap.size wt w') => den_any x11 X11 y11 Y11 ql w' (V11.out.keep hb).rat)
            have HD3 := Lib.hid (fun w' (hb : Below wt.heap.size wt w') => den_any x12 X12 y12 Y12 qh w' (V12.out.keep hb).rat)
            have HI1 := Lib.hid (fun x X y Y w' (h : IsInt 0 w' (.agg #[.int .i64 x, .pointer X]) (m.den : Int)) (h' : IsInt 0 w' (.agg #[.int .i64 y, .pointer Y]) (ql.den : Int)) => compare_any _ _ (m.den : Int) (ql.den : Int) w' h h')
            have HI2 := Lib.hid (fun x X y Y w' (h : IsInt 0 w' (.agg #[.int .i64 x, .pointer X]) (m.den : Int)) (h' : IsInt 0 w' (.agg #[.int .i64 y, .pointer Y]) (qh.den : Int)) => compare_any _ _ (m.den : Int) (qh.den : Int) w' h h')
            have t5 : decide (cmpR ql m ≤ 0) = true := decide_eq_true (cmpR_le Hsm.out.lo)
            have t6 : decide (cmpR m qh ≤ 0) = true := decide_eq_true (cmpR_le Hsm.out.hi)
            have t7 : decide (cmpZ (m.den : Int) (ql.den : Int) ≤ 0) = true := cmpZ_le00 (by have := l1.2; omega)
            have t8 : decide (cmpZ (m.den : Int) (qh.den : Int) ≤ 0) = true := cmpZ_le00 (by have := l2.2; omega)
            clear l1 l2 Fm
            generalize cmpR ql m = g5 at HC5 t5
            generalize cmpR m qh = g6 at HC6 t6
            generalize cmpZ (m.den : Int) (ql.den : Int) = g7 at HI1 t7
            generalize cmpZ (m.den : Int) (qh.den : Int) = g8 at HI2 t8
            have HS := Lib.hid (fun w' (hb : Below wt.heap.size wt w') => (⟨⟨(V11.out.keep hb).cells.c0, (V11.out.keep hb).cells.c1, (V11.out.keep hb).cells.c2, (V11.out.keep hb).cells.c3, (V12.out.keep hb).cells.c0, (V12.out.keep hb).cells.c1, (V12.out.keep hb).cells.c2, (V12.out.keep hb).cells.c3, (V13.out.keep hb).cells.c0, (V13.out.keep hb).cells.c1, (V13.out.keep hb).cells.c2, (V13.out.keep hb).cells.c3⟩, hb⟩ : (w'.cell? ⟨p11, 0, none⟩ = some (.int .i64 x11) ∧ w'.cell? ⟨p11, 1, none⟩ = some (.pointer X11) ∧ w'.cell? ⟨p11, 2, none⟩ = some (.int .i64 y11) ∧ w'.cell? ⟨p11, 3, none⟩ = some (.pointer Y11) ∧ w'.cell? ⟨p12, 0, none⟩ = some (.int .i64 x12) ∧ w'.cell? ⟨p12, 1, none⟩ = some (.pointer X12) ∧ w'.cell? ⟨p12, 2, none⟩ = some (.int .i64 y12) ∧ w'.cell? ⟨p12, 3, none⟩ = some (.pointer Y12) ∧ w'.cell? ⟨p13, 0, none⟩ = some (.int .i64 xa) ∧ w'.cell? ⟨p13, 1, none⟩ = some (.pointer xP) ∧ w'.cell? ⟨p13, 2, none⟩ = some (.int .i64 xb) ∧ w'.cell? ⟨p13, 3, none⟩ = some (.pointer xQ)) ∧ Below wt.heap.size wt w'))
            have HB := Lib.hid (fun w' (h : (w'.cell? ⟨p11, 0, none⟩ = some (.int .i64 x11) ∧ w'.cell? ⟨p11, 1, none⟩ = some (.pointer X11) ∧ w'.cell? ⟨p11, 2, none⟩ = some (.int .i64 y11) ∧ w'.cell? ⟨p11, 3, none⟩ = some (.pointer Y11) ∧ w'.cell? ⟨p12, 0, none⟩ = some (.int .i64 x12) ∧ w'.cell? ⟨p12, 1, none⟩ = some (.pointer X12) ∧ w'.cell? ⟨p12, 2, none⟩ = some (.int .i64 y12) ∧ w'.cell? ⟨p12, 3, none⟩ = some (.pointer Y12) ∧ w'.cell? ⟨p13, 0, none⟩ = some (.int .i64 xa) ∧ w'.cell? ⟨p13, 1, none⟩ = some (.pointer xP) ∧ w'.cell? ⟨p13, 2, none⟩ = some (.int .i64 xb) ∧ w'.cell? ⟨p13, 3, none⟩ = some (.pointer xQ)) ∧ Below wt.heap.size wt w') => h.2)
            have HK := Lib.hid (fun w' wx (h : (w'.cell? ⟨p11, 0, none⟩ = some (.int .i64 x11) ∧ w'.cell? ⟨p11, 1, none⟩ = some (.pointer X11) ∧ w'.cell? ⟨p11, 2, none⟩ = some (.int .i64 y11) ∧ w'.cell? ⟨p11, 3, none⟩ = some (.pointer Y11) ∧ w'.cell? ⟨p12, 0, none⟩ = some (.int .i64 x12) ∧ w'.cell? ⟨p12, 1, none⟩ = some (.pointer X12) ∧ w'.cell? ⟨p12, 2, none⟩ = some (.int .i64 y12) ∧ w'.cell? ⟨p12, 3, none⟩ = some (.pointer Y12) ∧ w'.cell? ⟨p13, 0, none⟩ = some (.int .i64 xa) ∧ w'.cell? ⟨p13, 1, none⟩ = some (.pointer xP) ∧ w'.cell? ⟨p13, 2, none⟩ = some (.int .i64 xb) ∧ w'.cell? ⟨p13, 3, none⟩ = some (.pointer xQ)) ∧ Below wt.heap.size wt w') (hb : Below w'.heap.size w' wx) => HS.out _ (below_on h.2 hb))
            go_upto_region 13 with fail
            try simp only [hwt, hp13]
            try clear hwt hp13
            go_region_held3 (fun w' => (w'.cell? ⟨p11, 0, none⟩ = some (.int .i64 x11) ∧ w'.cell? ⟨p11, 1, none⟩ = some (.pointer X11) ∧ w'.cell? ⟨p11, 2, none⟩ = some (.int .i64 y11) ∧ w'.cell? ⟨p11, 3, none⟩ = some (.pointer Y11) ∧ w'.cell? ⟨p12, 0, none⟩ = some (.int .i64 x12) ∧ w'.cell? ⟨p12, 1, none⟩ = some (.pointer X12) ∧ w'.cell? ⟨p12, 2, none⟩ = some (.int .i64 y12) ∧ w'.cell? ⟨p12, 3, none⟩ = some (.pointer Y12) ∧ w'.cell? ⟨p13, 0, none⟩ = some (.int .i64 xa) ∧ w'.cell? ⟨p13, 1, none⟩ = some (.pointer xP) ∧ w'.cell? ⟨p13, 2, none⟩ = some (.int .i64 xb) ∧ w'.cell? ⟨p13, 3, none⟩ = some (.pointer xQ)) ∧ Below wt.heap.size wt w')
              (first
                | assumption
                | exact HS.out _ (Below.refl _ _).drew
                | exact HK.out _ _ (by assumption) (by assumption)
                | exact HK.out _ _ (by assumption) ((Below.refl _ _).alloc (Nat.le_refl _) _))
              (first
                | (go_at_call_of 49 X11; refine (HC5.out _ (HB.out _ (by assumption))).mono ?_; rintro e w' ⟨rfl, hb⟩)
                | (go_at_call_of 49 X12; refine (HC6.out _ (HB.out _ (by assumption))).mono ?_; rintro e w' ⟨rfl, hb⟩)
                | (go_at_call_of 31 X11; refine (HD2.out _ (HB.out _ (by assumption))).mono ?_; rintro e w' ⟨x2, X2, rfl, hi2, hb⟩; (try have hi1 := hi1.keep hb))
                | (go_at_call_of 31 X12; refine (HD3.out _ (HB.out _ (by assumption))).mono ?_; rintro e w' ⟨x3, X3, rfl, hi3, hb⟩; (try have hi1 := hi1.keep hb))
                | (go_at_call_of 31 xP; refine (HD1.out _ (HB.out _ (by assumption))).mono ?_; rintro e w' ⟨x1, X1, rfl, hi1, hb⟩)
                | (go_at_call_of 61 X2; refine (HI1.out _ _ _ _ _ (by assumption) (by assumption)).mono ?_; rintro e w' ⟨rfl, hb⟩)
                | (go_at_call_of 61 X3; refine (HI2.out _ _ _ _ _ (by assumption) (by assumption)).mono ?_; rintro e w' ⟨rfl, hb⟩))
            go_split_ands
            have hw3 : Below wt.heap.size wt w' := by assumption
            have J5 := Lib.hid (below_on K5.out hw3)
            go_wp2
            exact bodyPost_ret (v := .bool true) (by simp [results, Tryz.results12, go_sem]) rfl ⟨rfl, J5.out⟩
end Go.Proofs.YtjcblcikipmojaaGreatDoor
