/- The simplest rational between two. -/
import Derived.Test.YtbpbfjnndkoioaaGreatDoorBtw
namespace Go.Proofs.YtbpbfjnndkoioaaGreatDoor
open Go.RowKit

theorem best_ex : ∀ (m a b c d : Nat), b + d < m → 0 < a → 0 < b → 0 < d → a * d ≤ c * b → ∃ n k, Best a b c d n k := by
  intro m
  induction m with
  | zero => intro a b c d hm; omega
  | succ m ih =>
    intro a b c d hm ha hb hd hle
    obtain ⟨e, he⟩ : ∃ e, a / b = e := ⟨_, rfl⟩
    obtain ⟨s, hs⟩ : ∃ s, a % b = s := ⟨_, rfl⟩
    have hsum : a = e * b + s := by rw [← he, ← hs, Nat.mul_comm]; exact (Nat.div_add_mod a b).symm
    have hsb : s < b := by rw [← hs]; exact Nat.mod_lt _ hb
    by_cases hs0 : s = 0
    · exact ⟨e, 1, best_whole hb ha (by omega) hle⟩
    · have hs1 : 0 < s := Nat.pos_of_ne_zero hs0
      have hed : e * d ≤ c := by
        have h1 : e * d * b ≤ c * b := Nat.le_trans (by rw [Nat.mul_right_comm]; exact Nat.mul_le_mul_right d (by omega)) hle
        exact Nat.le_of_mul_le_mul_right h1 hb
      obtain ⟨t, ht⟩ : ∃ t, c = e * d + t := ⟨c - e * d, by omega⟩
      by_cases htd : d ≤ t
      · exact ⟨e + 1, 1, best_next hb hsum hs1 hsb (by rw [Nat.succ_mul]; omega)⟩
      · have hex : s * d ≤ t * b := by
          have h1 := hle
          rw [hsum, ht, Nat.add_mul, Nat.add_mul, Nat.mul_right_comm e b d] at h1
          omega
        have ht0 : 0 < t := by
          rcases Nat.eq_zero_or_pos t with h | h
          · exfalso
            rw [h] at hex
            have h2 : 0 < s * d := Nat.mul_pos hs1 hd
            omega
          · exact h
        obtain ⟨n, k, h⟩ := ih d t b s (by omega) hd ht0 hs1 (by rw [Nat.mul_comm d s, Nat.mul_comm b t]; exact hex)
        exact ⟨e * n + k, n, best_step hsum ht hsb (by omega) hs1 h⟩
theorem best_one {a b c d n k n' k' : Nat} (h : Best a b c d n k) (h' : Best a b c d n' k') : n = n' ∧ k = k' := by
  have h1 := h.least n' k' h'.k0 h'.lo h'.hi
  have h2 := h'.least n k h.k0 h.lo h.hi
  omega
/-- Between two, and no numerator and no denominator there is less. -/
structure Simplest (p q m : Rat) : Prop where
  lo : p ≤ m
  hi : m ≤ q
  least : ∀ x : Rat, p ≤ x → x ≤ q → m.num.natAbs ≤ x.num.natAbs ∧ m.den ≤ x.den
theorem simplest_pos {p q m : Rat} (hp : 0 < p.num) (hq : 0 < q.num) (hm : 0 < m.num) (h : Best p.num.natAbs p.den q.num.natAbs q.den m.num.natAbs m.den) : Simplest p q m := by
  have ep : ((p.num.natAbs : Nat) : Int) = p.num := by omega
  have eq : ((q.num.natAbs : Nat) : Int) = q.num := by omega
  have em : ((m.num.natAbs : Nat) : Int) = m.num := by omega
  refine ⟨?_, ?_, fun x h1 h2 => ?_⟩
  · rw [Rat.le_iff, ← ep, ← em, ← Int.natCast_mul, ← Int.natCast_mul]
    exact Int.ofNat_le.2 h.lo
  · rw [Rat.le_iff, ← eq, ← em, ← Int.natCast_mul, ← Int.natCast_mul]
    exact Int.ofNat_le.2 h.hi
  · rw [Rat.le_iff] at h1 h2
    have hx : 0 < x.num := by
      rcases Int.lt_or_le 0 x.num with h3 | h3
      · exact h3
      · exfalso
        have h4 : x.num * (p.den : Int) ≤ 0 := Int.mul_nonpos_of_nonpos_of_nonneg h3 (by omega)
        have h5 : 0 < p.num * (x.den : Int) := Int.mul_pos hp (by have := x.den_pos; omega)
        omega
    have ex : ((x.num.natAbs : Nat) : Int) = x.num := by omega
    rw [← ep, ← ex, ← Int.natCast_mul, ← Int.natCast_mul] at h1
    rw [← eq, ← ex, ← Int.natCast_mul, ← Int.natCast_mul] at h2
    exact h.least _ _ x.den_pos (Int.ofNat_le.1 h1) (Int.ofNat_le.1 h2)
theorem simplest_neg {p q m : Rat} (h : Simplest (-q) (-p) m) : Simplest p q (-m) := by
  have le_neg : ∀ {a b : Rat}, -a ≤ b ↔ -b ≤ a := fun {a b} => by
    rw [Rat.le_iff, Rat.le_iff, Rat.neg_num, Rat.neg_den, Rat.neg_num, Rat.neg_den, Int.neg_mul, Int.neg_mul]
    omega
  have neg_le : ∀ {a b : Rat}, a ≤ -b ↔ b ≤ -a := fun {a b} => by
    rw [Rat.le_iff, Rat.le_iff, Rat.neg_num, Rat.neg_den, Rat.neg_num, Rat.neg_den, Int.neg_mul, Int.neg_mul]
    omega
  refine ⟨neg_le.1 h.hi, le_neg.1 h.lo, fun x h1 h2 => ?_⟩
  have hn : ∀ {a b : Rat}, a ≤ b → -b ≤ -a := fun {a b} hab => by
    rw [Rat.le_iff] at hab ⊢
    rw [Rat.neg_num, Rat.neg_den, Rat.neg_num, Rat.neg_den, Int.neg_mul, Int.neg_mul]
    omega
  have := h.least (-x) (hn h2) (hn h1)
  rw [Rat.neg_num, Rat.neg_den, Int.natAbs_neg] at this
  rw [Rat.neg_num, Rat.neg_den, Int.natAbs_neg]
  exact this
theorem simplest_zero {p q : Rat} (hp : p.num ≤ 0) (hq : 0 ≤ q.num) : Simplest p q 0 := by
  refine ⟨?_, ?_, fun x _ _ => ⟨Nat.zero_le _, x.den_pos⟩⟩
  · rw [Rat.le_iff]
    show p.num * 1 ≤ 0 * _
    omega
  · rw [Rat.le_iff]
    show 0 * _ ≤ q.num * 1
    omega
/-- Two integers in a slot. -/
def TwoAt (w : World) (t : Value) (z k : Int) : Prop := ∃ (x : Int) (X : Option Addr) (y : Int) (Y : Option Addr), t = .tuple #[.agg #[.int .i64 x, .pointer X], .agg #[.int .i64 y, .pointer Y]] ∧ IsInt 0 w (.agg #[.int .i64 x, .pointer X]) z ∧ IsInt 0 w (.agg #[.int .i64 y, .pointer Y]) k
theorem TwoAt.keep {w w' : World} {t : Value} {z k : Int} (h : TwoAt w t z k) (hb : Below w.heap.size w w') : TwoAt w' t z k := by
  obtain ⟨x, X, y, Y, e, hx, hy⟩ := h
  exact ⟨x, X, y, Y, e, hx.keep hb, hy.keep hb⟩
def TwoPost (n k : Int) (w : World) (e : Ending) (w' : World) : Prop := ∃ (x : Int) (X : Option Addr) (y : Int) (Y : Option Addr), e = .returned (.tuple #[.agg #[.int .i64 x, .pointer X], .agg #[.int .i64 y, .pointer Y]]) ∧ IsInt 0 w' (.agg #[.int .i64 x, .pointer X]) n ∧ IsInt 0 w' (.agg #[.int .i64 y, .pointer Y]) k ∧ Below w.heap.size w w'
theorem between_best {a b c d n k : Nat} (hbst : Best a b c d n k) (x0 : Int) (X0 : Option Addr) (x1 : Int) (X1 : Option Addr) (x2 : Int) (X2 : Option Addr) (x3 : Int) (X3 : Option Addr) (w : World) (ha : 0 < a) (hb : 0 < b) (hd : 0 < d) (hle : a * d ≤ c * b) (la : a < base 47) (lb : b < base 47) (lc : c < base 47) (ld : d < base 47)
    (h0 : IsInt 0 w (.agg #[.int .i64 x0, .pointer X0]) (a : Int)) (h1 : IsInt 0 w (.agg #[.int .i64 x1, .pointer X1]) (b : Int)) (h2 : IsInt 0 w (.agg #[.int .i64 x2, .pointer X2]) (c : Int)) (h3 : IsInt 0 w (.agg #[.int .i64 x3, .pointer X3]) (d : Int)) :
    Calls Tryz.prog 52 #[.agg #[.int .i64 x0, .pointer X0], .agg #[.int .i64 x1, .pointer X1], .agg #[.int .i64 x2, .pointer X2], .agg #[.int .i64 x3, .pointer X3]] w (TwoPost (n : Int) (k : Int) w) :=
  (between_any (b + d + 1) a b c d x0 X0 x1 X1 x2 X2 x3 X3 w (by omega) ha hb hd hle la lb lc ld h0 h1 h2 h3).mono fun e w' h => by
    obtain ⟨n', k', x, X, y, Y, rfl, hx, hy, hbest, hbl⟩ := h
    obtain ⟨rfl, rfl⟩ := best_one hbst hbest
    exact ⟨x, X, y, Y, rfl, hx, hy, hbl⟩
set_option maxRecDepth 100000 in
set_option maxHeartbeats 8000000 in
theorem simplest_any (a : Int) (P : Option Addr) (b : Int) (Q : Option Addr) (c : Int) (U : Option Addr) (d : Int) (V : Option Addr) (p q : Rat) (w : World) (h : RatV w a P b Q p) (h' : RatV w c U d V q) {m : Rat} (hpn : p.num.natAbs < base 47) (hpd : p.den < base 47) (hqn : q.num.natAbs < base 47) (hqd : q.den < base 47) (hp0 : 0 < p.num) (hq0 : 0 < q.num) (hle : p ≤ q) (hm0 : 0 < m.num) (hbst : Best p.num.natAbs p.den q.num.natAbs q.den m.num.natAbs m.den) :
    Calls Tryz.prog 22 #[.agg #[.int .i64 a, .pointer P, .int .i64 b, .pointer Q], .agg #[.int .i64 c, .pointer U, .int .i64 d, .pointer V]] w (NewRat m w) := by
  have kk := (((Below.refl w.heap.size w).alloc (Nat.le_refl _) (.cells #[.int .i64 a, .pointer P, .int .i64 b, .pointer Q] 28)).alloc (by simp) (.cells #[.int .i64 c, .pointer U, .int .i64 d, .pointer V] 28)).alloc (by simp; omega) (.cells #[.int .i64 0, .pointer none, .int .i64 0, .pointer none] 28)
  have V0 := Lib.hid (((box_rat w a P b Q).keep ((Below.refl _ _).alloc (Nat.le_refl _) (.cells #[.int .i64 c, .pointer U, .int .i64 d, .pointer V] 28))).keep ((Below.refl _ _).alloc (Nat.le_refl _) (.cells #[.int .i64 0, .pointer none, .int .i64 0, .pointer none] 28)))
  have V1 := Lib.hid ((box_rat (w.alloc (.cells #[.int .i64 a, .pointer P, .int .i64 b, .pointer Q] 28)) c U d V).keep ((Below.refl _ _).alloc (Nat.le_refl _) (.cells #[.int .i64 0, .pointer none, .int .i64 0, .pointer none] 28)))
  have R := Lib.hid (Cells.new ((w.alloc (.cells #[.int .i64 a, .pointer P, .int .i64 b, .pointer Q] 28)).alloc (.cells #[.int .i64 c, .pointer U, .int .i64 d, .pointer V] 28)) #[.int .i64 0, .pointer none, .int .i64 0, .pointer none] 28)
  simp only [World.size_alloc] at V1 R
  have HP := Lib.hid (fun w' (hb : Below w.heap.size w w') => h.keep hb)
  have HQ := Lib.hid (fun w' (hb : Below w.heap.size w w') => h'.keep hb)
  obtain ⟨wm, hwm⟩ : ∃ u, ((w.alloc (.cells #[.int .i64 a, .pointer P, .int .i64 b, .pointer Q] 28)).alloc (.cells #[.int .i64 c, .pointer U, .int .i64 d, .pointer V] 28)).alloc (.cells #[.int .i64 0, .pointer none, .int .i64 0, .pointer none] 28) = u := ⟨_, rfl⟩
  rw [hwm] at kk V0 V1 R
  have K0 := Lib.hid kk
  have HD1 := Lib.hid (fun v (hb : Below wm.heap.size wm v) => den_any a P b Q p v (HP.out v (below_on K0.out hb)))
  have HD2 := Lib.hid (fun v (hb : Below wm.heap.size wm v) => den_any c U d V q v (HQ.out v (below_on K0.out hb)))
  have hle' : p.num.natAbs * q.den ≤ q.num.natAbs * p.den := by
    rw [Rat.le_iff] at hle
    have e1 : ((p.num.natAbs : Nat) : Int) = p.num := by omega
    have e2 : ((q.num.natAbs : Nat) : Int) = q.num := by omega
    rw [← e1, ← e2, ← Int.natCast_mul, ← Int.natCast_mul] at hle
    exact Int.ofNat_le.1 hle
  have HBt := Lib.hid (fun x1 X1 x3 X3 v (hb : Below wm.heap.size wm v) (h1 : IsInt 0 v (.agg #[.int .i64 x1, .pointer X1]) (p.den : Int)) (h3 : IsInt 0 v (.agg #[.int .i64 x3, .pointer X3]) (q.den : Int)) => between_best hbst a P x1 X1 c U x3 X3 v (by omega) p.den_pos q.den_pos hle' hpn hpd hqn hqd (by have := (HP.out v (below_on K0.out hb)).num; rwa [show p.num = ((p.num.natAbs : Nat) : Int) by omega] at this) h1 (by have := (HQ.out v (below_on K0.out hb)).num; rwa [show q.num = ((q.num.natAbs : Nat) : Int) by omega] at this) h3)
  rw [show ((m.num.natAbs : Nat) : Int) = m.num by omega] at HBt
  clear h h' kk hpn hpd hqn hqd hle hle' hbst hp0 hq0 hm0
  have HS := Lib.hid (fun w' (hb : Below wm.heap.size wm w') => (⟨(V0.out.keep hb).c0, (V0.out.keep hb).c1, (V0.out.keep hb).c2, (V0.out.keep hb).c3, (V1.out.keep hb).c0, (V1.out.keep hb).c1, (V1.out.keep hb).c2, (V1.out.keep hb).c3⟩ : w'.cell? ⟨w.heap.size, 0, none⟩ = some (.int .i64 a) ∧ w'.cell? ⟨w.heap.size, 1, none⟩ = some (.pointer P) ∧ w'.cell? ⟨w.heap.size, 2, none⟩ = some (.int .i64 b) ∧ w'.cell? ⟨w.heap.size, 3, none⟩ = some (.pointer Q) ∧ w'.cell? ⟨w.heap.size + 1, 0, none⟩ = some (.int .i64 c) ∧ w'.cell? ⟨w.heap.size + 1, 1, none⟩ = some (.pointer U) ∧ w'.cell? ⟨w.heap.size + 1, 2, none⟩ = some (.int .i64 d) ∧ w'.cell? ⟨w.heap.size + 1, 3, none⟩ = some (.pointer V)))
  go_enter Tryz.func22, Tryz.ntmps22
  go_upto_region 1 with fail
  try simp only [hwm]
  clear hwm
  refine Till.begin 12 (fun w' => w'.cell? ⟨w.heap.size, 0, none⟩ = some (.int .i64 a) ∧ w'.cell? ⟨w.heap.size, 1, none⟩ = some (.pointer P) ∧ w'.cell? ⟨w.heap.size, 2, none⟩ = some (.int .i64 b) ∧ w'.cell? ⟨w.heap.size, 3, none⟩ = some (.pointer Q) ∧ w'.cell? ⟨w.heap.size + 1, 0, none⟩ = some (.int .i64 c) ∧ w'.cell? ⟨w.heap.size + 1, 1, none⟩ = some (.pointer U) ∧ w'.cell? ⟨w.heap.size + 1, 2, none⟩ = some (.int .i64 d) ∧ w'.cell? ⟨w.heap.size + 1, 3, none⟩ = some (.pointer V)) (by kernel_rfl) (HS.out _ (Below.refl _ _).drew) (fun hH => ?_)
  refine Till.tk 0 1 5 (.pointer (some ⟨w.heap.size, 0, none⟩)) hH ?_
  try simp only [Act.put, List.setIfInBounds_toArray, List.set_cons_zero, List.set_cons_succ]
  refine Till.tk 1 8 6 (.agg #[.int .i64 a, .pointer P]) hH ?_
  try simp only [Act.put, List.setIfInBounds_toArray, List.set_cons_zero, List.set_cons_succ]
  refine Till.tk 2 3 7 (.agg #[.int .i64 a, .pointer P, .int .i64 b, .pointer Q]) hH ?_
  try simp only [Act.put, List.setIfInBounds_toArray, List.set_cons_zero, List.set_cons_succ]
  refine Till.tk 4 5 9 (.pointer (some ⟨w.heap.size + 1, 0, none⟩)) hH ?_
  try simp only [Act.put, List.setIfInBounds_toArray, List.set_cons_zero, List.set_cons_succ]
  refine Till.tk 5 8 10 (.agg #[.int .i64 c, .pointer U]) hH ?_
  try simp only [Act.put, List.setIfInBounds_toArray, List.set_cons_zero, List.set_cons_succ]
  refine Till.tk 6 7 11 (.agg #[.int .i64 c, .pointer U, .int .i64 d, .pointer V]) hH ?_
  try simp only [Act.put, List.setIfInBounds_toArray, List.set_cons_zero, List.set_cons_succ]
  clear hH
  have B0 := Lib.hid (Below.refl wm.heap.size wm).drew
  generalize wm.drew = v0 at B0 ⊢
  refine Till.phaseP [3, 7, 8, 9, 10, 11] #[true, true, true, true, true, true, true, true, true, true, true, true, false] 1 (fun a0 dn an v => ∃ t3 t7 t8 t9 t10 t11 : Value, an = puts a0 [(8, t3), (12, t7), (13, t8), (14, t9), (15, t10), (16, t11)] ∧ Below wm.heap.size wm v ∧ (dn 3 = true → IntAt v t3 ((p.den : Int))) ∧ (dn 7 = true → IntAt v t7 ((q.den : Int))) ∧ (dn 8 = true → TwoAt v t8 (m.num) ((m.den : Int))) ∧ (dn 9 = true → IntAt v t9 (m.num)) ∧ (dn 10 = true → IntAt v t10 ((m.den : Int))) ∧ (dn 11 = true → RatAt v t11 (m))) rfl (by kernel_rfl) (by rintro dn an v ⟨_, _, _, _, _, _, rfl, hB, _⟩; exact HS.out _ hB) ⟨_, _, _, _, _, _, rfl, B0.out, (fun h => absurd h (by decide)), (fun h => absurd h (by decide)), (fun h => absurd h (by decide)), (fun h => absurd h (by decide)), (fun h => absurd h (by decide)), (fun h => absurd h (by decide))⟩ ⟨⟨_, rfl, ?_⟩, ⟨_, rfl, ?_⟩, ⟨_, rfl, ?_⟩, ⟨_, rfl, ?_⟩, ⟨_, rfl, ?_⟩, ⟨_, rfl, ?_⟩, trivial⟩ ?_
  · rintro dn an v ⟨t3, t7, t8, t9, t10, t11, rfl, hB, F3, F7, F8, F9, F10, F11⟩ hi ha K hK
    replace hB := Lib.hid hB
    replace F3 := Lib.hid F3
    replace F7 := Lib.hid F7
    replace F8 := Lib.hid F8
    replace F9 := Lib.hid F9
    replace F10 := Lib.hid F10
    replace F11 := Lib.hid F11
    clear ha
    refine Pent.mk ?_
    try simp only [puts, Act.put, List.setIfInBounds_toArray, List.set_cons_zero, List.set_cons_succ]
    go_simp
    refine (HD1.out _ hB.out).mono ?_
    rintro e v1 ⟨x3, X3, rfl, hx, g⟩
    replace hx := Lib.hid hx
    replace g := Lib.hid g
    go_wp2_with fail
    exact hK.out _ _ ⟨.agg #[.int .i64 x3, .pointer X3], t7, t8, t9, t10, t11, (by kernel_rfl), below_on hB.out g.out, fun _ => ⟨x3, X3, rfl, hx.out⟩, fun h => (F7.out h).keep g.out, fun h => (F8.out h).keep g.out, fun h => (F9.out h).keep g.out, fun h => (F10.out h).keep g.out, fun h => (F11.out h).keep g.out⟩
  · rintro dn an v ⟨t3, t7, t8, t9, t10, t11, rfl, hB, F3, F7, F8, F9, F10, F11⟩ hi ha K hK
    obtain ⟨x3, X3, rfl, I3⟩ := F3 (ha 3 (by kernel_rfl))
    replace hB := Lib.hid hB
    replace F3 := Lib.hid F3
    replace F7 := Lib.hid F7
    replace F8 := Lib.hid F8
    replace F9 := Lib.hid F9
    replace F10 := Lib.hid F10
    replace F11 := Lib.hid F11
    replace I3 := Lib.hid I3
    clear ha
    refine Pent.mk ?_
    try simp only [puts, Act.put, List.setIfInBounds_toArray, List.set_cons_zero, List.set_cons_succ]
    go_simp
    refine (HD2.out _ hB.out).mono ?_
    rintro e v1 ⟨x7, X7, rfl, hx, g⟩
    replace hx := Lib.hid hx
    replace g := Lib.hid g
    go_wp2_with fail
    exact hK.out _ _ ⟨.agg #[.int .i64 x3, .pointer X3], .agg #[.int .i64 x7, .pointer X7], t8, t9, t10, t11, (by kernel_rfl), below_on hB.out g.out, fun h => (F3.out h).keep g.out, fun _ => ⟨x7, X7, rfl, hx.out⟩, fun h => (F8.out h).keep g.out, fun h => (F9.out h).keep g.out, fun h => (F10.out h).keep g.out, fun h => (F11.out h).keep g.out⟩
  · rintro dn an v ⟨t3, t7, t8, t9, t10, t11, rfl, hB, F3, F7, F8, F9, F10, F11⟩ hi ha K hK
    obtain ⟨x3, X3, rfl, I3⟩ := F3 (ha 3 (by kernel_rfl))
    obtain ⟨x7, X7, rfl, I7⟩ := F7 (ha 7 (by kernel_rfl))
    replace hB := Lib.hid hB
    replace F3 := Lib.hid F3
    replace F7 := Lib.hid F7
    replace F8 := Lib.hid F8
    replace F9 := Lib.hid F9
    replace F10 := Lib.hid F10
    replace F11 := Lib.hid F11
    replace I3 := Lib.hid I3
    replace I7 := Lib.hid I7
    clear ha
    refine Pent.mk ?_
    try simp only [puts, Act.put, List.setIfInBounds_toArray, List.set_cons_zero, List.set_cons_succ]
    go_simp
    refine (HBt.out _ _ _ _ _ hB.out I3.out I7.out).mono ?_
    rintro e v1 ⟨x8, X8, y8, Y8, rfl, hx, hy, g⟩
    replace hx := Lib.hid hx
    replace hy := Lib.hid hy
    replace g := Lib.hid g
    go_wp2_with fail
    exact hK.out _ _ ⟨.agg #[.int .i64 x3, .pointer X3], .agg #[.int .i64 x7, .pointer X7], .tuple #[.agg #[.int .i64 x8, .pointer X8], .agg #[.int .i64 y8, .pointer Y8]], t9, t10, t11, (by kernel_rfl), below_on hB.out g.out, fun h => (F3.out h).keep g.out, fun h => (F7.out h).keep g.out, fun _ => ⟨x8, X8, y8, Y8, rfl, hx.out, hy.out⟩, fun h => (F9.out h).keep g.out, fun h => (F10.out h).keep g.out, fun h => (F11.out h).keep g.out⟩
  · rintro dn an v ⟨t3, t7, t8, t9, t10, t11, rfl, hB, F3, F7, F8, F9, F10, F11⟩ hi ha K hK
    obtain ⟨x8, X8, y8, Y8, rfl, I8, J8⟩ := F8 (ha 8 (by kernel_rfl))
    replace hB := Lib.hid hB
    replace F3 := Lib.hid F3
    replace F7 := Lib.hid F7
    replace F8 := Lib.hid F8
    replace F9 := Lib.hid F9
    replace F10 := Lib.hid F10
    replace F11 := Lib.hid F11
    replace J8 := Lib.hid J8
    replace I8 := Lib.hid I8
    clear ha
    refine Pent.mk ?_
    try simp only [puts, Act.put, List.setIfInBounds_toArray, List.set_cons_zero, List.set_cons_succ]
    have g := Lib.hid (Below.refl v.heap.size v)
    go_simp
    exact hK.out _ _ ⟨t3, t7, .tuple #[.agg #[.int .i64 x8, .pointer X8], .agg #[.int .i64 y8, .pointer Y8]], .agg #[.int .i64 x8, .pointer X8], t10, t11, (by kernel_rfl), below_on hB.out g.out, fun h => (F3.out h).keep g.out, fun h => (F7.out h).keep g.out, fun h => (F8.out h).keep g.out, fun _ => ⟨x8, X8, rfl, I8.out.keep g.out⟩, fun h => (F10.out h).keep g.out, fun h => (F11.out h).keep g.out⟩
  · rintro dn an v ⟨t3, t7, t8, t9, t10, t11, rfl, hB, F3, F7, F8, F9, F10, F11⟩ hi ha K hK
    obtain ⟨x8, X8, y8, Y8, rfl, I8, J8⟩ := F8 (ha 8 (by kernel_rfl))
    replace hB := Lib.hid hB
    replace F3 := Lib.hid F3
    replace F7 := Lib.hid F7
    replace F8 := Lib.hid F8
    replace F9 := Lib.hid F9
    replace F10 := Lib.hid F10
    replace F11 := Lib.hid F11
    replace J8 := Lib.hid J8
    replace I8 := Lib.hid I8
    clear ha
    refine Pent.mk ?_
    try simp only [puts, Act.put, List.setIfInBounds_toArray, List.set_cons_zero, List.set_cons_succ]
    have g := Lib.hid (Below.refl v.heap.size v)
    go_simp
    exact hK.out _ _ ⟨t3, t7, .tuple #[.agg #[.int .i64 x8, .pointer X8], .agg #[.int .i64 y8, .pointer Y8]], t9, .agg #[.int .i64 y8, .pointer Y8], t11, (by kernel_rfl), below_on hB.out g.out, fun h => (F3.out h).keep g.out, fun h => (F7.out h).keep g.out, fun h => (F8.out h).keep g.out, fun h => (F9.out h).keep g.out, fun _ => ⟨y8, Y8, rfl, J8.out.keep g.out⟩, fun h => (F11.out h).keep g.out⟩
  · rintro dn an v ⟨t3, t7, t8, t9, t10, t11, rfl, hB, F3, F7, F8, F9, F10, F11⟩ hi ha K hK
    obtain ⟨x8, X8, y8, Y8, rfl, I8, J8⟩ := F8 (ha 8 (by kernel_rfl))
    obtain ⟨x9, X9, rfl, I9⟩ := F9 (ha 9 (by kernel_rfl))
    obtain ⟨x10, X10, rfl, I10⟩ := F10 (ha 10 (by kernel_rfl))
    replace hB := Lib.hid hB
    replace F3 := Lib.hid F3
    replace F7 := Lib.hid F7
    replace F8 := Lib.hid F8
    replace F9 := Lib.hid F9
    replace F10 := Lib.hid F10
    replace F11 := Lib.hid F11
    replace J8 := Lib.hid J8
    replace I8 := Lib.hid I8
    replace I9 := Lib.hid I9
    replace I10 := Lib.hid I10
    clear ha
    refine Pent.mk ?_
    try simp only [puts, Act.put, List.setIfInBounds_toArray, List.set_cons_zero, List.set_cons_succ]
    go_simp
    refine (of_any _ _ _ _ m _ I9.out I10.out).mono ?_
    rintro e v1 ⟨x11, X11, y11, Y11, rfl, hx, g⟩
    replace hx := Lib.hid hx
    replace g := Lib.hid g
    go_wp2_with fail
    exact hK.out _ _ ⟨t3, t7, .tuple #[.agg #[.int .i64 x8, .pointer X8], .agg #[.int .i64 y8, .pointer Y8]], .agg #[.int .i64 x9, .pointer X9], .agg #[.int .i64 x10, .pointer X10], .agg #[.int .i64 x11, .pointer X11, .int .i64 y11, .pointer Y11], (by kernel_rfl), below_on hB.out g.out, fun h => (F3.out h).keep g.out, fun h => (F7.out h).keep g.out, fun h => (F8.out h).keep g.out, fun h => (F9.out h).keep g.out, fun h => (F10.out h).keep g.out, fun _ => ⟨x11, X11, y11, Y11, rfl, hx.out⟩⟩
  · rintro dn an v ⟨t3, t7, t8, t9, t10, t11, rfl, hB, F3, F7, F8, F9, F10, F11⟩ hE
    obtain ⟨x3, X3, rfl, I3⟩ := F3 (hE 3 (by decide))
    obtain ⟨x7, X7, rfl, I7⟩ := F7 (hE 7 (by decide))
    obtain ⟨x8, X8, y8, Y8, rfl, I8, J8⟩ := F8 (hE 8 (by decide))
    obtain ⟨x9, X9, rfl, I9⟩ := F9 (hE 9 (by decide))
    obtain ⟨x10, X10, rfl, I10⟩ := F10 (hE 10 (by decide))
    obtain ⟨x11, X11, y11, Y11, rfl, I11⟩ := F11 (hE 11 (by decide))
    clear hE F3 F7 F8 F9 F10 F11
    replace hB := Lib.hid hB
    replace J8 := Lib.hid J8
    replace I3 := Lib.hid I3
    replace I7 := Lib.hid I7
    replace I8 := Lib.hid I8
    replace I9 := Lib.hid I9
    replace I10 := Lib.hid I10
    replace I11 := Lib.hid I11
    refine Pent.mk ?_
    try simp only [puts, Act.put, List.setIfInBounds_toArray, List.set_cons_zero, List.set_cons_succ]
    replace R := Lib.hid (R.out.keep hB.out)
    have k0 := R.out.c0
    have f0 := R.out.fz 0
    have k1 := R.out.c1
    have f1 := R.out.fz 1
    have k2 := R.out.c2
    have f2 := R.out.fz 2
    have k3 := R.out.c3
    have f3 := R.out.fz 3
    refine Till.one (i := 12) (by kernel_rfl) rfl (fun K hK => ?_)
    go_simp
    refine hK.out _ _ (fun h => absurd h (by simp)) ?_
    clear hK K
    try simp only [List.setIfInBounds_toArray, List.set_cons_zero, List.set_cons_succ]
    refine Till.done (by kernel_rfl) ?_ _
    have Hv := Lib.hid (I11.out.wrote R.out (by rfl) (put4_heap v (w.heap.size + 1 + 1) (.int .i64 x11) (.pointer X11) (.int .i64 y11) (.pointer Y11)).1 (put4_heap _ _ _ _ _ _).2)
    have Kf := Lib.hid (below_put4 (below_on K0.out hB.out) (show w.heap.size ≤ w.heap.size + 1 + 1 by omega) (.int .i64 x11) (.pointer X11) (.int .i64 y11) (.pointer Y11))
    go_wp2
    exact bodyPost_ret (v := .agg #[.int .i64 x11, .pointer X11, .int .i64 y11, .pointer Y11]) (by simp [results, Tryz.results22, go_sem, k0, k1, k2, k3]) rfl ⟨x11, X11, y11, Y11, rfl, Hv.out, Kf.out⟩
theorem cmpR_le {p q : Rat} (h : p ≤ q) : cmpR p q ≤ 0 := by
  rw [Rat.le_iff] at h
  unfold cmpR cmpZ
  split
  · decide
  · rw [if_neg (by omega)]; decide
theorem best_rat {p q : Rat} (hp : 0 < p.num) (hq : 0 < q.num) (hle : p ≤ q) : ∃ m : Rat, 0 < m.num ∧ Best p.num.natAbs p.den q.num.natAbs q.den m.num.natAbs m.den := by
  have hle' : p.num.natAbs * q.den ≤ q.num.natAbs * p.den := by
    rw [Rat.le_iff] at hle
    have e1 : ((p.num.natAbs : Nat) : Int) = p.num := by omega
    have e2 : ((q.num.natAbs : Nat) : Int) = q.num := by omega
    rw [← e1, ← e2, ← Int.natCast_mul, ← Int.natCast_mul] at hle
    exact Int.ofNat_le.1 hle
  obtain ⟨n, k, h⟩ := best_ex (p.den + q.den + 1) p.num.natAbs p.den q.num.natAbs q.den (by omega) (by omega) p.den_pos q.den_pos hle'
  obtain ⟨h1, h2⟩ := rat_low (n := (n : Int)) (d := k) (N := (n : Int)) (D := (k : Int)) h.k0 (by rw [Int.natAbs_natCast]; exact h.cop) (by have := h.k0; omega) rfl
  refine ⟨Rat.divInt n k, by rw [h1]; have := h.n0; omega, ?_⟩
  rw [h1, h2, Int.natAbs_natCast]
  exact h
/-- What Simplest returns for two in their order. -/
def SimpPost (p q : Rat) (w : World) (e : Ending) (w' : World) : Prop := ∃ m, Simplest p q m ∧ Made m w e w'
set_option maxRecDepth 100000 in
set_option maxHeartbeats 8000000 in
theorem rsimplest_any (a : Int) (P : Option Addr) (b : Int) (Q : Option Addr) (c : Int) (U : Option Addr) (d : Int) (V : Option Addr) (p q : Rat) (w : World) (h : RatV w a P b Q p) (h' : RatV w c U d V q) (hpn : p.num.natAbs < base 47) (hpd : p.den < base 47) (hqn : q.num.natAbs < base 47) (hqd : q.den < base 47) (hle : p ≤ q) :
    Calls Tryz.prog 6 #[.agg #[.int .i64 a, .pointer P, .int .i64 b, .pointer Q], .agg #[.int .i64 c, .pointer U, .int .i64 d, .pointer V]] w (SimpPost p q w) := by
  have kk := (((Below.refl w.heap.size w).alloc (Nat.le_refl _) (.cells #[.int .i64 a, .pointer P, .int .i64 b, .pointer Q] 28)).alloc (by simp) (.cells #[.int .i64 c, .pointer U, .int .i64 d, .pointer V] 28)).alloc (by simp; omega) (.cells #[.int .i64 0, .pointer none, .int .i64 0, .pointer none] 28)
  have V0 := Lib.hid (((box_rat w a P b Q).keep ((Below.refl _ _).alloc (Nat.le_refl _) (.cells #[.int .i64 c, .pointer U, .int .i64 d, .pointer V] 28))).keep ((Below.refl _ _).alloc (Nat.le_refl _) (.cells #[.int .i64 0, .pointer none, .int .i64 0, .pointer none] 28)))
  have V1 := Lib.hid ((box_rat (w.alloc (.cells #[.int .i64 a, .pointer P, .int .i64 b, .pointer Q] 28)) c U d V).keep ((Below.refl _ _).alloc (Nat.le_refl _) (.cells #[.int .i64 0, .pointer none, .int .i64 0, .pointer none] 28)))
  have R := Lib.hid (Cells.new ((w.alloc (.cells #[.int .i64 a, .pointer P, .int .i64 b, .pointer Q] 28)).alloc (.cells #[.int .i64 c, .pointer U, .int .i64 d, .pointer V] 28)) #[.int .i64 0, .pointer none, .int .i64 0, .pointer none] 28)
  simp only [World.size_alloc] at V1 R
  have HP := Lib.hid (fun w' (hb : Below w.heap.size w w') => h.keep hb)
  have HQ := Lib.hid (fun w' (hb : Below w.heap.size w w') => h'.keep hb)
  have HC := Lib.hid (rcmp_any a P b Q c U d V p q _ (h.keep kk) (h'.keep kk) hpn hpd hqn hqd)
  obtain ⟨cv, hcv⟩ : ∃ cv, cmpR p q = cv := ⟨_, rfl⟩
  have tc : decide (0 < cv) = false := by rw [← hcv]; have := cmpR_le hle; exact decide_eq_false (by omega)
  rw [hcv] at HC
  have HS1 := Lib.hid (fun w' (hb : Below w.heap.size w w') => rsign_any a P b Q p w' (HP.out w' hb))
  have HS2 := Lib.hid (fun w' (hb : Below w.heap.size w w') => rsign_any c U d V q w' (HQ.out w' hb))
  have K := Lib.hid kk
  clear h h' kk hcv
  by_cases hz : p.num ≤ 0 ∧ 0 ≤ q.num
  · obtain ⟨hz1, hz2⟩ := hz
    obtain ⟨s1, hs1⟩ : ∃ s, sgn p.num = s := ⟨_, rfl⟩
    obtain ⟨s2, hs2⟩ : ∃ s, sgn q.num = s := ⟨_, rfl⟩
    have t1 : decide (s1 ≤ 0) = true := by rw [← hs1]; unfold sgn; split; · decide
                                           rw [if_neg (by omega)]; decide
    have t2 : decide (0 ≤ s2) = true := by rw [← hs2]; unfold sgn; rw [if_neg (by omega)]; split <;> decide
    rw [hs1] at HS1
    rw [hs2] at HS2
    have Hm := Lib.hid (simplest_zero hz1 hz2)
    clear hs1 hs2 hz1 hz2
    have c0 := V0.out.c0
    have c1 := V0.out.c1
    have c2 := V0.out.c2
    have c3 := V0.out.c3
    have i0 := V1.out.c0
    have i1 := V1.out.c1
    have i2 := V1.out.c2
    have i3 := V1.out.c3
    go_enter Tryz.func6, Tryz.ntmps6
    go_wp2_with fail
    refine HC.out.mono ?_
    rintro e w1 ⟨rfl, g1⟩
    clear c0 c1 c2 c3
    clear i0 i1 i2 i3
    replace V0 := Lib.hid (V0.out.keep g1)
    replace V1 := Lib.hid (V1.out.keep g1)
    replace R := Lib.hid (R.out.keep g1)
    replace K := Lib.hid (below_on K.out g1)
    clear g1
    have c0 := V0.out.c0
    have c1 := V0.out.c1
    have c2 := V0.out.c2
    have c3 := V0.out.c3
    go_wp2_with fail
    refine (HS1.out _ K.out).mono ?_
    rintro e w2 ⟨rfl, g1⟩
    clear c0 c1 c2 c3
    replace V0 := Lib.hid (V0.out.keep g1)
    replace V1 := Lib.hid (V1.out.keep g1)
    replace R := Lib.hid (R.out.keep g1)
    replace K := Lib.hid (below_on K.out g1)
    clear g1
    have c0 := V1.out.c0
    have c1 := V1.out.c1
    have c2 := V1.out.c2
    have c3 := V1.out.c3
    go_wp2_with fail
    refine (HS2.out _ K.out).mono ?_
    rintro e w3 ⟨rfl, g1⟩
    clear c0 c1 c2 c3
    replace V0 := Lib.hid (V0.out.keep g1)
    replace V1 := Lib.hid (V1.out.keep g1)
    replace R := Lib.hid (R.out.keep g1)
    replace K := Lib.hid (below_on K.out g1)
    clear g1
    have k0 := R.out.c0
    have f0 := R.out.fz 0
    have k1 := R.out.c1
    have f1 := R.out.fz 1
    have k2 := R.out.c2
    have f2 := R.out.fz 2
    have k3 := R.out.c3
    have f3 := R.out.fz 3
    have Kf := Lib.hid (below_put4 K.out (show w.heap.size ≤ w.heap.size + 1 + 1 by omega) (.int .i64 0) (.pointer none) (.int .i64 0) (.pointer none))
    go_wp2
    exact bodyPost_ret (v := .tuple #[.agg #[.int .i64 0, .pointer none, .int .i64 0, .pointer none], .int .i64 0]) (by simp [results, Tryz.results6, go_sem, k0, k1, k2, k3]) rfl ⟨0, Hm.out, 0, none, 0, none, rfl, rat_zero0 _, Kf.out⟩
  · by_cases hp : 0 < p.num
    · have hq : 0 < q.num := by
        rcases Int.lt_or_le 0 q.num with h3 | h3
        · exact h3
        · exfalso
          rw [Rat.le_iff] at hle
          have h4 : q.num * (p.den : Int) ≤ 0 := Int.mul_nonpos_of_nonpos_of_nonneg h3 (by omega)
          have h5 : 0 < p.num * (q.den : Int) := Int.mul_pos hp (by have := q.den_pos; omega)
          omega
      obtain ⟨m, hm0, hbst⟩ := best_rat hp hq hle
      have Hm := Lib.hid (simplest_pos hp hq hm0 hbst)
      have HL := Lib.hid (fun w' (hb : Below w.heap.size w w') => simplest_any a P b Q c U d V p q w' (HP.out w' hb) (HQ.out w' hb) hpn hpd hqn hqd hp hq hle hm0 hbst)
      rw [show sgn p.num = 1 by unfold sgn; rw [if_neg (by omega), if_pos hp]] at HS1
      clear hm0 hbst hp hq hz
      have c0 := V0.out.c0
      have c1 := V0.out.c1
      have c2 := V0.out.c2
      have c3 := V0.out.c3
      have i0 := V1.out.c0
      have i1 := V1.out.c1
      have i2 := V1.out.c2
      have i3 := V1.out.c3
      go_enter Tryz.func6, Tryz.ntmps6
      go_wp2_with fail
      refine HC.out.mono ?_
      rintro e w1 ⟨rfl, g1⟩
      clear c0 c1 c2 c3
      clear i0 i1 i2 i3
      replace V0 := Lib.hid (V0.out.keep g1)
      replace V1 := Lib.hid (V1.out.keep g1)
      replace R := Lib.hid (R.out.keep g1)
      replace K := Lib.hid (below_on K.out g1)
      clear g1
      have c0 := V0.out.c0
      have c1 := V0.out.c1
      have c2 := V0.out.c2
      have c3 := V0.out.c3
      go_wp2_with fail
      refine (HS1.out _ K.out).mono ?_
      rintro e w2 ⟨rfl, g1⟩
      clear c0 c1 c2 c3
      replace V0 := Lib.hid (V0.out.keep g1)
      replace V1 := Lib.hid (V1.out.keep g1)
      replace R := Lib.hid (R.out.keep g1)
      replace K := Lib.hid (below_on K.out g1)
      clear g1
      have c0 := V0.out.c0
      have c1 := V0.out.c1
      have c2 := V0.out.c2
      have c3 := V0.out.c3
      go_wp2_with fail
      refine (HS1.out _ K.out).mono ?_
      rintro e w3 ⟨rfl, g1⟩
      clear c0 c1 c2 c3
      replace V0 := Lib.hid (V0.out.keep g1)
      replace V1 := Lib.hid (V1.out.keep g1)
      replace R := Lib.hid (R.out.keep g1)
      replace K := Lib.hid (below_on K.out g1)
      clear g1
      have c0 := V0.out.c0
      have c1 := V0.out.c1
      have c2 := V0.out.c2
      have c3 := V0.out.c3
      have i0 := V1.out.c0
      have i1 := V1.out.c1
      have i2 := V1.out.c2
      have i3 := V1.out.c3
      go_wp2_with fail
      refine (HL.out _ K.out).mono ?_
      rintro e w5 ⟨xa, xP, xb, xQ, rfl, hv, g1⟩
      clear c0 c1 c2 c3
      clear i0 i1 i2 i3
      replace R := Lib.hid (R.out.keep g1)
      replace K := Lib.hid (below_on K.out g1)
      have Hv := Lib.hid (hv.wrote R.out (by rfl) (put4_heap w5 (w.heap.size + 1 + 1) (.int .i64 xa) (.pointer xP) (.int .i64 xb) (.pointer xQ)).1 (put4_heap _ _ _ _ _ _).2)
      have Kf := Lib.hid (below_put4 K.out (show w.heap.size ≤ w.heap.size + 1 + 1 by omega) (.int .i64 xa) (.pointer xP) (.int .i64 xb) (.pointer xQ))
      clear g1 hv
      have k0 := R.out.c0
      have f0 := R.out.fz 0
      have k1 := R.out.c1
      have f1 := R.out.fz 1
      have k2 := R.out.c2
      have f2 := R.out.fz 2
      have k3 := R.out.c3
      have f3 := R.out.fz 3
      go_wp2
      exact bodyPost_ret (v := .tuple #[.agg #[.int .i64 xa, .pointer xP, .int .i64 xb, .pointer xQ], .int .i64 0]) (by simp [results, Tryz.results6, go_sem, k0, k1, k2, k3]) rfl ⟨m, Hm.out, xa, xP, xb, xQ, rfl, Hv.out, Kf.out⟩
    · have hp1 : p.num < 0 ∧ q.num < 0 := by
        have h1 : p.num ≤ 0 := by omega
        have h2 : q.num < 0 := by
          rcases Int.lt_or_le q.num 0 with h | h
          · exact h
          · exact absurd ⟨h1, h⟩ hz
        refine ⟨?_, h2⟩
        rcases Int.lt_or_eq_of_le h1 with h | h
        · exact h
        · exfalso
          rw [Rat.le_iff, h, Int.zero_mul] at hle
          have := Int.mul_neg_of_neg_of_pos h2 (show 0 < (p.den : Int) by have := p.den_pos; omega)
          omega
      obtain ⟨hp1, hq1⟩ := hp1
      have hle2 : -q ≤ -p := by
        rw [Rat.le_iff] at hle ⊢
        rw [Rat.neg_num, Rat.neg_den, Rat.neg_num, Rat.neg_den, Int.neg_mul, Int.neg_mul]
        omega
      have hq2 : 0 < (-q).num := by rw [Rat.neg_num]; omega
      have hp2 : 0 < (-p).num := by rw [Rat.neg_num]; omega
      obtain ⟨m, hm0, hbst⟩ := best_rat hq2 hp2 hle2
      have Hm := Lib.hid (simplest_neg (simplest_pos hq2 hp2 hm0 hbst))
      have HL := Lib.hid (fun x0 X0 y0 Y0 x1 X1 y1 Y1 w' (_hb : Below w.heap.size w w') (h0 : RatV w' x0 X0 y0 Y0 (-q)) (h1 : RatV w' x1 X1 y1 Y1 (-p)) => simplest_any x0 X0 y0 Y0 x1 X1 y1 Y1 (-q) (-p) w' h0 h1 (by rw [Rat.neg_num, Int.natAbs_neg]; exact hqn) (by rw [Rat.neg_den]; exact hqd) (by rw [Rat.neg_num, Int.natAbs_neg]; exact hpn) (by rw [Rat.neg_den]; exact hpd) hq2 hp2 hle2 hm0 hbst)
      have HN1 := Lib.hid (fun w' (hb : Below w.heap.size w w') => rneg_any c U d V q w' (HQ.out w' hb))
      have HN2 := Lib.hid (fun w' (hb : Below w.heap.size w w') => rneg_any a P b Q p w' (HP.out w' hb))
      rw [show sgn p.num = -1 by unfold sgn; rw [if_pos hp1]] at HS1
      rw [show sgn q.num = -1 by unfold sgn; rw [if_pos hq1]] at HS2
      clear hm0 hbst hp1 hq1 hp2 hq2 hle2 hz
      have c0 := V0.out.c0
      have c1 := V0.out.c1
      have c2 := V0.out.c2
      have c3 := V0.out.c3
      have i0 := V1.out.c0
      have i1 := V1.out.c1
      have i2 := V1.out.c2
      have i3 := V1.out.c3
      go_enter Tryz.func6, Tryz.ntmps6
      go_wp2_with fail
      refine HC.out.mono ?_
      rintro e w1 ⟨rfl, g1⟩
      clear c0 c1 c2 c3
      clear i0 i1 i2 i3
      replace V0 := Lib.hid (V0.out.keep g1)
      replace V1 := Lib.hid (V1.out.keep g1)
      replace R := Lib.hid (R.out.keep g1)
      replace K := Lib.hid (below_on K.out g1)
      clear g1
      have c0 := V0.out.c0
      have c1 := V0.out.c1
      have c2 := V0.out.c2
      have c3 := V0.out.c3
      go_wp2_with fail
      refine (HS1.out _ K.out).mono ?_
      rintro e w2 ⟨rfl, g1⟩
      clear c0 c1 c2 c3
      replace V0 := Lib.hid (V0.out.keep g1)
      replace V1 := Lib.hid (V1.out.keep g1)
      replace R := Lib.hid (R.out.keep g1)
      replace K := Lib.hid (below_on K.out g1)
      clear g1
      have c0 := V1.out.c0
      have c1 := V1.out.c1
      have c2 := V1.out.c2
      have c3 := V1.out.c3
      go_wp2_with fail
      refine (HS2.out _ K.out).mono ?_
      rintro e w3 ⟨rfl, g1⟩
      clear c0 c1 c2 c3
      replace V0 := Lib.hid (V0.out.keep g1)
      replace V1 := Lib.hid (V1.out.keep g1)
      replace R := Lib.hid (R.out.keep g1)
      replace K := Lib.hid (below_on K.out g1)
      clear g1
      have c0 := V0.out.c0
      have c1 := V0.out.c1
      have c2 := V0.out.c2
      have c3 := V0.out.c3
      go_wp2_with fail
      refine (HS1.out _ K.out).mono ?_
      rintro e w4 ⟨rfl, g1⟩
      clear c0 c1 c2 c3
      replace V0 := Lib.hid (V0.out.keep g1)
      replace V1 := Lib.hid (V1.out.keep g1)
      replace R := Lib.hid (R.out.keep g1)
      replace K := Lib.hid (below_on K.out g1)
      clear g1
      replace HN1 := Lib.hid (fun w' (hb : Below w4.heap.size w4 w') => HN1.out w' (below_on K.out hb))
      replace HN2 := Lib.hid (fun w' (hb : Below w4.heap.size w4 w') => HN2.out w' (below_on K.out hb))
      replace HL := Lib.hid (fun x0 X0 y0 Y0 x1 X1 y1 Y1 w' (hb : Below w4.heap.size w4 w') => HL.out x0 X0 y0 Y0 x1 X1 y1 Y1 w' (below_on K.out hb))
      generalize w4 = wm at *
      have HS := Lib.hid (fun w' (hb : Below wm.heap.size wm w') => (⟨(V1.out.keep hb).c0, (V1.out.keep hb).c1, (V1.out.keep hb).c2, (V1.out.keep hb).c3, (V0.out.keep hb).c0, (V0.out.keep hb).c1, (V0.out.keep hb).c2, (V0.out.keep hb).c3⟩ : w'.cell? ⟨w.heap.size + 1, 0, none⟩ = some (.int .i64 c) ∧ w'.cell? ⟨w.heap.size + 1, 1, none⟩ = some (.pointer U) ∧ w'.cell? ⟨w.heap.size + 1, 2, none⟩ = some (.int .i64 d) ∧ w'.cell? ⟨w.heap.size + 1, 3, none⟩ = some (.pointer V) ∧ w'.cell? ⟨w.heap.size, 0, none⟩ = some (.int .i64 a) ∧ w'.cell? ⟨w.heap.size, 1, none⟩ = some (.pointer P) ∧ w'.cell? ⟨w.heap.size, 2, none⟩ = some (.int .i64 b) ∧ w'.cell? ⟨w.heap.size, 3, none⟩ = some (.pointer Q)))
      go_upto_region 6 with fail
      refine Till.begin 6 (fun w' => w'.cell? ⟨w.heap.size + 1, 0, none⟩ = some (.int .i64 c) ∧ w'.cell? ⟨w.heap.size + 1, 1, none⟩ = some (.pointer U) ∧ w'.cell? ⟨w.heap.size + 1, 2, none⟩ = some (.int .i64 d) ∧ w'.cell? ⟨w.heap.size + 1, 3, none⟩ = some (.pointer V) ∧ w'.cell? ⟨w.heap.size, 0, none⟩ = some (.int .i64 a) ∧ w'.cell? ⟨w.heap.size, 1, none⟩ = some (.pointer P) ∧ w'.cell? ⟨w.heap.size, 2, none⟩ = some (.int .i64 b) ∧ w'.cell? ⟨w.heap.size, 3, none⟩ = some (.pointer Q)) (by kernel_rfl) (HS.out _ (Below.refl _ _).drew) (fun hH => ?_)
      refine Till.tk 0 1 26 (.agg #[.int .i64 c, .pointer U, .int .i64 d, .pointer V]) hH ?_
      try simp only [Act.put, List.setIfInBounds_toArray, List.set_cons_zero, List.set_cons_succ]
      refine Till.tk 2 3 28 (.agg #[.int .i64 a, .pointer P, .int .i64 b, .pointer Q]) hH ?_
      try simp only [Act.put, List.setIfInBounds_toArray, List.set_cons_zero, List.set_cons_succ]
      clear hH
      have B0 := Lib.hid (Below.refl wm.heap.size wm).drew
      generalize wm.drew = v0 at B0 ⊢
      refine Till.phaseP [1, 3, 4, 5] #[true, true, true, true, true, true, false, false] 2 (fun a0 dn an v => ∃ t1 t3 t4 t5 : Value, an = puts a0 [(27, t1), (29, t3), (30, t4), (31, t5)] ∧ Below wm.heap.size wm v ∧ (dn 1 = true → RatAt v t1 (-q)) ∧ (dn 3 = true → RatAt v t3 (-p)) ∧ (dn 4 = true → RatAt v t4 (m)) ∧ (dn 5 = true → RatAt v t5 (-m))) rfl (by kernel_rfl) (by rintro dn an v ⟨_, _, _, _, rfl, hB, _⟩; exact HS.out _ hB) ⟨_, _, _, _, rfl, B0.out, (fun h => absurd h (by decide)), (fun h => absurd h (by decide)), (fun h => absurd h (by decide)), (fun h => absurd h (by decide))⟩ ⟨⟨_, rfl, ?_⟩, ⟨_, rfl, ?_⟩, ⟨_, rfl, ?_⟩, ⟨_, rfl, ?_⟩, trivial⟩ ?_
      · rintro dn an v ⟨t1, t3, t4, t5, rfl, hB, F1, F3, F4, F5⟩ hi ha K hK
        replace hB := Lib.hid hB
        replace F1 := Lib.hid F1
        replace F3 := Lib.hid F3
        replace F4 := Lib.hid F4
        replace F5 := Lib.hid F5
        clear ha
        refine Pent.mk ?_
        try simp only [puts, Act.put, List.setIfInBounds_toArray, List.set_cons_zero, List.set_cons_succ]
        go_simp
        refine (HN1.out _ hB.out).mono ?_
        rintro e v1 ⟨x1, X1, y1, Y1, rfl, hx, g⟩
        replace hx := Lib.hid hx
        replace g := Lib.hid g
        go_wp2_with fail
        exact hK.out _ _ ⟨.agg #[.int .i64 x1, .pointer X1, .int .i64 y1, .pointer Y1], t3, t4, t5, (by kernel_rfl), below_on hB.out g.out, fun _ => ⟨x1, X1, y1, Y1, rfl, hx.out⟩, fun h => (F3.out h).keep g.out, fun h => (F4.out h).keep g.out, fun h => (F5.out h).keep g.out⟩
      · rintro dn an v ⟨t1, t3, t4, t5, rfl, hB, F1, F3, F4, F5⟩ hi ha K hK
        obtain ⟨x1, X1, y1, Y1, rfl, I1⟩ := F1 (ha 1 (by kernel_rfl))
        replace hB := Lib.hid hB
        replace F1 := Lib.hid F1
        replace F3 := Lib.hid F3
        replace F4 := Lib.hid F4
        replace F5 := Lib.hid F5
        replace I1 := Lib.hid I1
        clear ha
        refine Pent.mk ?_
        try simp only [puts, Act.put, List.setIfInBounds_toArray, List.set_cons_zero, List.set_cons_succ]
        go_simp
        refine (HN2.out _ hB.out).mono ?_
        rintro e v1 ⟨x3, X3, y3, Y3, rfl, hx, g⟩
        replace hx := Lib.hid hx
        replace g := Lib.hid g
        go_wp2_with fail
        exact hK.out _ _ ⟨.agg #[.int .i64 x1, .pointer X1, .int .i64 y1, .pointer Y1], .agg #[.int .i64 x3, .pointer X3, .int .i64 y3, .pointer Y3], t4, t5, (by kernel_rfl), below_on hB.out g.out, fun h => (F1.out h).keep g.out, fun _ => ⟨x3, X3, y3, Y3, rfl, hx.out⟩, fun h => (F4.out h).keep g.out, fun h => (F5.out h).keep g.out⟩
      · rintro dn an v ⟨t1, t3, t4, t5, rfl, hB, F1, F3, F4, F5⟩ hi ha K hK
        obtain ⟨x1, X1, y1, Y1, rfl, I1⟩ := F1 (ha 1 (by kernel_rfl))
        obtain ⟨x3, X3, y3, Y3, rfl, I3⟩ := F3 (ha 3 (by kernel_rfl))
        replace hB := Lib.hid hB
        replace F1 := Lib.hid F1
        replace F3 := Lib.hid F3
        replace F4 := Lib.hid F4
        replace F5 := Lib.hid F5
        replace I1 := Lib.hid I1
        replace I3 := Lib.hid I3
        clear ha
        refine Pent.mk ?_
        try simp only [puts, Act.put, List.setIfInBounds_toArray, List.set_cons_zero, List.set_cons_succ]
        go_simp
        refine (HL.out _ _ _ _ _ _ _ _ _ hB.out I1.out I3.out).mono ?_
        rintro e v1 ⟨x4, X4, y4, Y4, rfl, hx, g⟩
        replace hx := Lib.hid hx
        replace g := Lib.hid g
        go_wp2_with fail
        exact hK.out _ _ ⟨.agg #[.int .i64 x1, .pointer X1, .int .i64 y1, .pointer Y1], .agg #[.int .i64 x3, .pointer X3, .int .i64 y3, .pointer Y3], .agg #[.int .i64 x4, .pointer X4, .int .i64 y4, .pointer Y4], t5, (by kernel_rfl), below_on hB.out g.out, fun h => (F1.out h).keep g.out, fun h => (F3.out h).keep g.out, fun _ => ⟨x4, X4, y4, Y4, rfl, hx.out⟩, fun h => (F5.out h).keep g.out⟩
      · rintro dn an v ⟨t1, t3, t4, t5, rfl, hB, F1, F3, F4, F5⟩ hi ha K hK
        obtain ⟨x4, X4, y4, Y4, rfl, I4⟩ := F4 (ha 4 (by kernel_rfl))
        replace hB := Lib.hid hB
        replace F1 := Lib.hid F1
        replace F3 := Lib.hid F3
        replace F4 := Lib.hid F4
        replace F5 := Lib.hid F5
        replace I4 := Lib.hid I4
        clear ha
        refine Pent.mk ?_
        try simp only [puts, Act.put, List.setIfInBounds_toArray, List.set_cons_zero, List.set_cons_succ]
        go_simp
        refine (rneg_any _ _ _ _ m _ I4.out).mono ?_
        rintro e v1 ⟨x5, X5, y5, Y5, rfl, hx, g⟩
        replace hx := Lib.hid hx
        replace g := Lib.hid g
        go_wp2_with fail
        exact hK.out _ _ ⟨t1, t3, .agg #[.int .i64 x4, .pointer X4, .int .i64 y4, .pointer Y4], .agg #[.int .i64 x5, .pointer X5, .int .i64 y5, .pointer Y5], (by kernel_rfl), below_on hB.out g.out, fun h => (F1.out h).keep g.out, fun h => (F3.out h).keep g.out, fun h => (F4.out h).keep g.out, fun _ => ⟨x5, X5, y5, Y5, rfl, hx.out⟩⟩
      · rintro dn an v ⟨t1, t3, t4, t5, rfl, hB, F1, F3, F4, F5⟩ hE
        obtain ⟨x1, X1, y1, Y1, rfl, I1⟩ := F1 (hE 1 (by decide))
        obtain ⟨x3, X3, y3, Y3, rfl, I3⟩ := F3 (hE 3 (by decide))
        obtain ⟨x4, X4, y4, Y4, rfl, I4⟩ := F4 (hE 4 (by decide))
        obtain ⟨x5, X5, y5, Y5, rfl, I5⟩ := F5 (hE 5 (by decide))
        clear hE F1 F3 F4 F5
        replace hB := Lib.hid hB
        replace I1 := Lib.hid I1
        replace I3 := Lib.hid I3
        replace I4 := Lib.hid I4
        replace I5 := Lib.hid I5
        refine Pent.mk ?_
        try simp only [puts, Act.put, List.setIfInBounds_toArray, List.set_cons_zero, List.set_cons_succ]
        replace R := Lib.hid (R.out.keep hB.out)
        have k0 := R.out.c0
        have f0 := R.out.fz 0
        have k1 := R.out.c1
        have f1 := R.out.fz 1
        have k2 := R.out.c2
        have f2 := R.out.fz 2
        have k3 := R.out.c3
        have f3 := R.out.fz 3
        refine Till.one (i := 6) (by kernel_rfl) rfl (fun K hK => ?_)
        go_simp
        refine hK.out _ _ (fun h => absurd h (by simp)) ?_
        clear hK K
        try simp only [List.setIfInBounds_toArray, List.set_cons_zero, List.set_cons_succ]
        refine Till.one (i := 7) (by kernel_rfl) rfl (fun K hK => ?_)
        go_simp
        refine hK.out _ _ (fun h => absurd h (by simp)) ?_
        clear hK K
        try simp only [List.setIfInBounds_toArray, List.set_cons_zero, List.set_cons_succ]
        refine Till.done (by kernel_rfl) ?_ _
        have Hv := Lib.hid (I5.out.wrote R.out (by rfl) (put4_heap v (w.heap.size + 1 + 1) (.int .i64 x5) (.pointer X5) (.int .i64 y5) (.pointer Y5)).1 (put4_heap _ _ _ _ _ _).2)
        have Kf := Lib.hid (below_put4 (below_on K.out hB.out) (show w.heap.size ≤ w.heap.size + 1 + 1 by omega) (.int .i64 x5) (.pointer X5) (.int .i64 y5) (.pointer Y5))
        go_wp2
        exact bodyPost_ret (v := .tuple #[.agg #[.int .i64 x5, .pointer X5, .int .i64 y5, .pointer Y5], .int .i64 0]) (by simp [results, Tryz.results6, go_sem, k0, k1, k2, k3]) rfl ⟨-m, Hm.out, x5, X5, y5, Y5, rfl, Hv.out, Kf.out⟩
end Go.Proofs.YtbpbfjnndkoioaaGreatDoor
