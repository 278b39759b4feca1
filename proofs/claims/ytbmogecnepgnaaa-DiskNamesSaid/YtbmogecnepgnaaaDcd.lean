/- The model: with. -/
import Derived.Test.YtbmogecnepgnaaaDcc
import Derived.BigQuiet
namespace Go.Proofs.Ytbmogecnepgnaaa
open Go.RowKit Go.Maps Go.Shelf
def ltB (a b : ByteArray) : Bool := Op.bytesLess a.toList b.toList
def posM (l : List Ent) (name : ByteArray) : Nat := (l.takeWhile fun e => ltB e.1 name).length
def withM (l : List Ent) (x : Ent) : List Ent :=
  let l' := withoutM l x.1
  l'.take (posM l' x.1) ++ [x] ++ l'.drop (posM l' x.1)
theorem pos_at {α : Type} {p : α → Bool} : ∀ {l : List α} {j : Nat}, (∀ (i : Nat) (x : α), i < j → l[i]? = some x → p x = true) → j ≤ l.length → (∀ x, l[j]? = some x → p x = false) → (l.takeWhile p).length = j
  | [], j, _, hj, _ => by simp at hj; simp [hj]
  | a :: l, 0, _, _, h0 => by rw [List.takeWhile_cons, h0 a rfl]; rfl
  | a :: l, j + 1, hall, hj, h0 => by
    rw [List.takeWhile_cons, hall 0 a (by omega) rfl]
    show _ + 1 = _
    rw [pos_at (j := j) (fun i x hi hx => hall (i + 1) x (by omega) (by simpa using hx)) (by simpa using hj) (fun x hx => h0 x (by simpa using hx))]
theorem RowAt.drop {w : World} {T : TypeId} {k n c : Nat} {A : Option Addr} {xs : List Value} (h : RowAt w T k (.slice A n c) n xs) {m : Nat} (hm : m ≤ n) {g o : Nat} (hA : A = some ⟨g, o, none⟩) : RowAt w T k (.slice (some ⟨g, o + m * k, none⟩) (n - m) (c - m)) (n - m) (xs.drop (m * k)) := by
  refine ⟨by rw [List.length_drop, h.1, Nat.sub_mul], ?_⟩
  rcases h.2 with ⟨e, _⟩ | ⟨g', o', c', us, fz, e, h1, h2, h3, h4⟩
  · injection e with e1 _ _
    rw [hA] at e1
    cases e1
  · injection e with e1 e2 e3
    rw [hA] at e1
    injection e1 with e1
    injection e1 with e4 e5
    subst e3 e4 e5
    exact .inr ⟨g, o + m * k, c - m, us, fz, rfl, by omega, by omega, h3, fun i x hx => by
      rw [List.getElem?_drop] at hx
      rw [show o + m * k + i = o + (m * k + i) by omega]
      exact h4 _ _ hx⟩
theorem own_ent {w : World} {B : Nat} {T : TypeId} {v : Value} {n : Nat} {M : List Ent} (h : w.ownsRow B T 2 v n (entC M)) : w.ownsRow B T 2 v M.length (entC M) := by
  have h1 := h.1
  rw [entC_len] at h1
  have : n = M.length := by omega
  rw [← this]
  exact h
theorem RowAt.none_left {w : World} {T : TypeId} {k n c g o : Nat} {xs : List Value} (h : RowAt w T k (.slice (some ⟨g, o, none⟩) n c) n xs) : RowAt w T k (.slice (some ⟨g, o, none⟩) 0 0) 0 [] := by
  rcases h.2 with ⟨e, _⟩ | ⟨g', o', c', us, fz, e, h1, h2, h3, h4⟩
  · cases e
  · injection e with e1 e2 e3
    injection e1 with e1
    injection e1 with e4 e5
    subst e4 e5
    exact ⟨by simp, .inr ⟨g, o, 0, us, fz, rfl, Nat.le_refl _, Nat.zero_le _, h3, fun i x hx => by simp at hx⟩⟩
set_option maxRecDepth 100000 in
set_option maxHeartbeats 8000000 in
theorem with_any {w : World} {v : Value} {n : Nat} {l : List Ent} (h : RowAt w 75 2 v n (entC l)) (hn : l.length = n) (hnm : n ≤ 1000) (x : Ent) :
    Calls Try.prog 71 #[v, .agg #[.string x.1, .int .i64 (x.2 : Nat)]] w fun e w' => ∃ v', e = .returned v' ∧ w'.ownsRow w.heap.size 75 2 v' (withM l x).length (entC (withM l x)) ∧ Below w.heap.size w w' := by
  obtain ⟨i0, hi, hz0, hz1, hz2⟩ := info_parts info_ent
  have k1 := (Below.refl w.heap.size w).alloc (Nat.le_refl _) (.cells #[.string x.1, .int .i64 (x.2 : Nat)] 75)
  have C1 := Cells.new w #[.string x.1, .int .i64 (x.2 : Nat)] 75
  obtain ⟨w1, hw1⟩ : ∃ u, w.alloc (.cells #[.string x.1, .int .i64 (x.2 : Nat)] 75) = u := ⟨_, rfl⟩
  rw [hw1] at k1 C1
  have HK1 := Lib.hid k1
  have HR1 := Lib.hid (h.keep k1)
  have HN := Lib.hid hn
  have HC1 := Lib.hid C1
  have hWl : (withoutM l x.1).length ≤ 1000 := Nat.le_trans (List.length_filter_le _ _) (by omega)
  have z0 := C1.at_ 0
  have z1 := C1.at_ 1
  simp only [List.getElem?_cons_zero, List.getElem?_cons_succ] at z0 z1
  clear h hn k1 C1
  go_enter Try.func71, Try.ntmps71
  go_wp2_with fail
  refine (without_any HR1.out HN.out hnm x.1).mono ?_
  rintro e w2 ⟨vl, rfl, hown, hb⟩
  have HK2 := Lib.hid (below_on HK1.out hb)
  have HC2 := Lib.hid (HC1.out.keep hb)
  have HR2 := Lib.hid (RowAt.of_own hown)
  clear z0 z1 hown hb hw1
  have z0 := HC2.out.at_ 0
  have z1 := HC2.out.at_ 1
  simp only [List.getElem?_cons_zero, List.getElem?_cons_succ] at z0 z1
  obtain ⟨L, hL⟩ : ∃ L, withoutM l x.1 = L := ⟨_, rfl⟩
  rw [hL] at HR2 hWl
  have HL := Lib.hid hL
  obtain ⟨q, hq⟩ : ∃ q, L.length = q := ⟨_, rfl⟩
  rw [hq] at HR2 hWl
  have HQ := Lib.hid hq
  clear hL hq
  obtain ⟨A, c, rfl, hc1, hc2, hA0, _⟩ := HR2.out.slice
  have HA0 := Lib.hid hA0
  clear hA0
  go_wp2_with fail
  go_loopw [6] (fun i wr => ∃ j : Nat, i = .int .i64 (j : Nat) ∧ j ≤ q ∧ (∀ (i : Nat) (e : Ent), i < j → L[i]? = some e → ltB e.1 x.1 = true) ∧ RowAt wr 75 2 (.slice A q c) q (entC L) ∧ Cells wr w.heap.size [.string x.1, .int .i64 (x.2 : Nat)] ∧ Below w.heap.size w wr) (fun i _ => q - (intOf i).toNat)
  case atStart => exact ⟨0, rfl, Nat.zero_le _, fun i x h => absurd h (Nat.not_lt_zero _), HR2.out, HC2.out, HK2.out⟩
  case round =>
    obtain ⟨j, rfl, hj, hall, hR, hC, hK⟩ := hrel
    have HA := Lib.hid hall
    have HR := Lib.hid hR
    have HC := Lib.hid hC
    have HK := Lib.hid hK
    have hz0' := hC.at_ 0
    have hz1' := hC.at_ 1
    simp only [List.getElem?_cons_zero, List.getElem?_cons_succ] at hz0' hz1'
    clear hall hC hK z0 z1
    have stop : (∀ e, L[j]? = some e → ltB e.1 x.1 = false) → posM L x.1 = j := fun h => pos_at HA.out (by have := HQ.out; omega) h
    rcases hR.2 with ⟨ev, hq0⟩ | ⟨g, o, c', us, fz, ev, _, _, hhp, hcl⟩
    · injection ev with ev1 ev2 ev3
      subst ev1 ev3
      obtain rfl : q = 0 := hq0
      obtain rfl : j = 0 := by omega
      have i1 : ¬ ((0 : Int) < 0) := by omega
      have HS := Lib.hid (stop (fun e he => by
        have := (List.getElem?_eq_some_iff.1 he).1
        have := HQ.out
        omega))
      clear stop hR
      go_wp2_with fail
      go_quiet (fail)
      obtain ⟨W0, hW0⟩ : ∃ W0 : World, W0 = wr.drewN nq := ⟨_, rfl⟩
      have hK0 : Below wr.heap.size wr W0 := by rw [hW0]; exact below_drewN (Below.refl _ _) _
      rw [← hW0]
      have HR' := Lib.hid (HR.out.keep hK0)
      have HC' := Lib.hid (HC.out.keep hK0)
      have HK' := Lib.hid (HK.out.trans (hK0.mono HK.out.size))
      clear hz0' hz1' hW0 hK0
      have HC1' := Lib.hid HC'.out
      have HB1 := Lib.hid (Below.refl W0.heap.size W0)
      have HO1 := Lib.hid (World.ownsRow_nil W0 W0.heap.size 75 2)
      have y0 := HC1'.out.at_ 0
      have y1 := HC1'.out.at_ 1
      simp only [List.getElem?_cons_zero, List.getElem?_cons_succ] at y0 y1
      go_wp2_with (at_builtin; refine wpList_append_row rfl _ _ 31 rfl W0.heap.size 75 i0 _ 2 24 Try.underlying31 hi hz0 hz1 hz2 rfl (by decide) rfl (HO1.out.alloc _) rfl (RowAt.fresh W0 75 2 1 #[.string x.1, .int .i64 (x.2 : Nat)] rfl (by decide)) ?b1 ?b2 (by decide) ?b3 ?_)
      case b1 => exact ⟨rfl, rfl⟩
      case b2 => omega
      case b3 => exact size_le HB1.out.size
      intro v2 W2 ho2 hg2
      have hb2 : Below W0.heap.size W0 W2 := ((Below.refl W0.heap.size W0).alloc HB1.out.size _).trans (below_row hg2 (fun k hk => own_ge HO1.out hk) (size_le HB1.out.size))
      have HB2 := Lib.hid (HB1.out.trans hb2)
      have HR3 := Lib.hid (HR'.out.keep HB2.out)
      have HO2 := Lib.hid ho2
      clear ho2 hg2 hb2 y0 y1
      obtain ⟨A3, c3, rfl, hc31, hc32, hA3, _⟩ := own_row HO2.out
      obtain ⟨g3, rfl⟩ := hA3 (by omega)
      have hc33 : 1 ≤ c3 := by omega
      have HB3 := Lib.hid (HK'.out.trans (HB2.out.mono HK'.out.size))
      have HO3 := Lib.hid (own_down HO2.out HK'.out.size)
      clear hc31 hA3
      go_wp2_with fail
      go_ret
      refine ⟨_, rfl, ?_, HB3.out⟩
      have h9 := HO3.out
      unfold withM
      simp only
      rw [HL.out, HS.out]
      obtain rfl : L = [] := List.eq_nil_of_length_eq_zero HQ.out
      exact h9
    · injection ev with ev1 ev2 ev3
      subst ev1 ev3
      clear hR
      by_cases hlt : j < q
      · have i1 : (j : Int) < (q : Int) := by omega
        have i2 : IntKind.i64.wrap ((j : Int) + 1) = (j : Int) + 1 := IntWalk.i64_in _ (by omega)
        obtain ⟨y, hy⟩ : ∃ y, L[j]? = some y := ⟨_, List.getElem?_eq_getElem (by have := HQ.out; omega)⟩
        have he := entC_at L j y hy
        have y0 : wr.cell? ⟨g, o + j * 2, none⟩ = some (.string y.1) := by rw [cell_of_row _ _ _ _ _ _ hhp]; exact hcl _ _ he.1
        have HY := Lib.hid hy
        obtain ⟨b, hb⟩ : ∃ b, Op.bytesLess y.1.toList x.1.toList = b := ⟨_, rfl⟩
        have HB := Lib.hid (show ltB y.1 x.1 = b from hb)
        clear he hcl hhp hy
        cases b
        · have HS := Lib.hid (stop (fun e he => by rw [HY.out] at he; injection he with he; rw [← he]; exact HB.out))
          clear stop
          go_wp2_with fail
          go_quiet (fail)
          obtain ⟨W0, hW0⟩ : ∃ W0 : World, W0 = wr.drewN nq := ⟨_, rfl⟩
          have hK0 : Below wr.heap.size wr W0 := by rw [hW0]; exact below_drewN (Below.refl _ _) _
          rw [← hW0]
          have HR' := Lib.hid (HR.out.keep hK0)
          have HC' := Lib.hid (HC.out.keep hK0)
          have HK' := Lib.hid (HK.out.trans (hK0.mono HK.out.size))
          clear hz0' hz1' hW0 hK0
          go_wp2_with (at_builtin; refine wpList_append_row rfl _ _ 31 rfl W0.heap.size 75 i0 _ 2 24 Try.underlying31 hi hz0 hz1 hz2 rfl (by decide) rfl (World.ownsRow_nil W0 W0.heap.size _ _) rfl (HR'.out.take (m := j) (by omega)) ?a1 ?a2 (by decide) ?a3 ?_)
          case a1 => exact by rw [entC_take]; exact entC_one _
          case a2 => omega
          case a3 => exact Nat.le_refl _
          intro v1 W1 ho1 hg1
          have hb1 : Below W0.heap.size W0 W1 := below_row hg1 (fun k hk => by cases hk) (Nat.le_refl _)
          have HC1' := Lib.hid (HC'.out.keep hb1)
          have HB1 := Lib.hid hb1
          have HO1 := Lib.hid ho1
          clear ho1 hg1 hb1
          have y0 := HC1'.out.at_ 0
          have y1 := HC1'.out.at_ 1
          simp only [List.getElem?_cons_zero, List.getElem?_cons_succ] at y0 y1
          go_wp2_with (at_builtin; refine wpList_append_row rfl _ _ 31 rfl W0.heap.size 75 i0 _ 2 24 Try.underlying31 hi hz0 hz1 hz2 rfl (by decide) rfl (HO1.out.alloc _) rfl (RowAt.fresh W1 75 2 1 #[.string x.1, .int .i64 (x.2 : Nat)] rfl (by decide)) ?b1 ?b2 (by decide) ?b3 ?_)
          case b1 => exact ⟨rfl, rfl⟩
          case b2 => omega
          case b3 => exact size_le HB1.out.size
          intro v2 W2 ho2 hg2
          have hb2 : Below W0.heap.size W1 W2 := ((Below.refl W0.heap.size W1).alloc HB1.out.size _).trans (below_row hg2 (fun k hk => own_ge HO1.out hk) (size_le HB1.out.size))
          have HB2 := Lib.hid (HB1.out.trans hb2)
          have HR3 := Lib.hid (HR'.out.keep HB2.out)
          have HO2 := Lib.hid ho2
          clear ho2 hg2 hb2 y0 y1
          go_wp2_with (at_builtin; refine wpList_append_row rfl _ _ 31 rfl W0.heap.size 75 i0 _ 2 24 Try.underlying31 hi hz0 hz1 hz2 rfl (by decide) rfl HO2.out rfl (HR3.out.drop (m := j) (by omega) rfl) ?d1 ?d2 (by decide) ?d3 ?_)
          case d1 => exact by rw [entC_drop]; exact entC_one _
          case d2 => omega
          case d3 => exact HB2.out.size
          intro v3 W3 ho3 hg3
          have hb3 : Below W0.heap.size W2 W3 := below_row hg3 (fun k hk => own_ge HO2.out hk) HB2.out.size
          have HB3 := Lib.hid (HK'.out.trans ((HB2.out.trans hb3).mono HK'.out.size))
          have HO3 := Lib.hid (own_down ho3 HK'.out.size)
          clear ho3 hg3 hb3
          go_wp2_with fail
          go_ret
          refine ⟨_, rfl, ?_, HB3.out⟩
          have h9 := HO3.out
          unfold withM
          simp only
          rw [HL.out, HS.out]
          have e9 : entC (L.take j ++ [x] ++ L.drop j) = entC (L.take j) ++ Value.string x.1 :: Value.int .i64 (x.2 : Nat) :: entC (L.drop j) := by rw [entC_app, entC_app, List.append_assoc]; rfl
          rw [entC_take, entC_drop] at h9
          exact own_ent (by rw [e9]; exact h9)
        · clear stop
          go_wp2_with fail
          go_quiet (fail)
          go_wp2_with fail
          go_roundw
          case rel =>
            refine ⟨j + 1, by go_num, by omega, fun i e hi he => ?_, HR.out.keep (below_drewN (Below.refl _ _) _), HC.out.keep (below_drewN (Below.refl _ _) _), below_drewN HK.out _⟩
            by_cases hij : i = j
            · subst hij
              rw [HY.out] at he
              injection he with he
              rw [← he]
              exact HB.out
            · exact HA.out i e (by omega) he
          case measure => simp [intOf]; omega
      · have i1 : ¬ (j : Int) < (q : Int) := by omega
        have hjq : j = q := by omega
        have HS := Lib.hid (stop (fun e he => by
          have := (List.getElem?_eq_some_iff.1 he).1
          have := HQ.out
          omega))
        clear stop hcl hhp
        subst hjq
        by_cases hqc : j = c
        · subst hqc
          go_wp2_with fail
          go_quiet (fail)
          obtain ⟨W0, hW0⟩ : ∃ W0 : World, W0 = wr.drewN nq := ⟨_, rfl⟩
          have hK0 : Below wr.heap.size wr W0 := by rw [hW0]; exact below_drewN (Below.refl _ _) _
          rw [← hW0]
          have HR' := Lib.hid (HR.out.keep hK0)
          have HC' := Lib.hid (HC.out.keep hK0)
          have HK' := Lib.hid (HK.out.trans (hK0.mono HK.out.size))
          clear hz0' hz1' hW0 hK0
          go_wp2_with (at_builtin; refine wpList_append_row rfl _ _ 31 rfl W0.heap.size 75 i0 _ 2 24 Try.underlying31 hi hz0 hz1 hz2 rfl (by decide) rfl (World.ownsRow_nil W0 W0.heap.size _ _) rfl (HR'.out.take (m := j) (by omega)) ?a1 ?a2 (by decide) ?a3 ?_)
          case a1 => exact by rw [entC_take]; exact entC_one _
          case a2 => omega
          case a3 => exact Nat.le_refl _
          intro v1 W1 ho1 hg1
          have hb1 : Below W0.heap.size W0 W1 := below_row hg1 (fun k hk => by cases hk) (Nat.le_refl _)
          have HC1' := Lib.hid (HC'.out.keep hb1)
          have HB1 := Lib.hid hb1
          have HO1 := Lib.hid ho1
          clear ho1 hg1 hb1
          have y0 := HC1'.out.at_ 0
          have y1 := HC1'.out.at_ 1
          simp only [List.getElem?_cons_zero, List.getElem?_cons_succ] at y0 y1
          go_wp2_with (at_builtin; refine wpList_append_row rfl _ _ 31 rfl W0.heap.size 75 i0 _ 2 24 Try.underlying31 hi hz0 hz1 hz2 rfl (by decide) rfl (HO1.out.alloc _) rfl (RowAt.fresh W1 75 2 1 #[.string x.1, .int .i64 (x.2 : Nat)] rfl (by decide)) ?b1 ?b2 (by decide) ?b3 ?_)
          case b1 => exact ⟨rfl, rfl⟩
          case b2 => omega
          case b3 => exact size_le HB1.out.size
          intro v2 W2 ho2 hg2
          have hb2 : Below W0.heap.size W1 W2 := ((Below.refl W0.heap.size W1).alloc HB1.out.size _).trans (below_row hg2 (fun k hk => own_ge HO1.out hk) (size_le HB1.out.size))
          have HB2 := Lib.hid (HB1.out.trans hb2)
          have HR3 := Lib.hid (HR'.out.keep HB2.out)
          have HO2 := Lib.hid ho2
          clear ho2 hg2 hb2 y0 y1
          obtain ⟨A3, c3, rfl, hc31, hc32, hA3, _⟩ := own_row HO2.out
          obtain ⟨g3, rfl⟩ := hA3 (by omega)
          have hc33 : j + 1 ≤ c3 := by omega
          have HB3 := Lib.hid (HK'.out.trans (HB2.out.mono HK'.out.size))
          have HO3 := Lib.hid (own_down HO2.out HK'.out.size)
          clear hc31 hA3
          go_wp2_with fail
          go_ret
          refine ⟨_, rfl, ?_, HB3.out⟩
          have h9 := HO3.out
          unfold withM
          simp only
          rw [HL.out, HS.out]
          rw [entC_take] at h9
          have e9 : entC (L.take j ++ [x] ++ L.drop j) = entC (L.take j) ++ entC [x] := by rw [List.drop_of_length_le (by have := HQ.out; omega), List.append_nil, entC_app]
          exact own_ent (by rw [e9]; exact h9)
        · have hqc' : j < c := by omega
          go_wp2_with fail
          go_quiet (fail)
          obtain ⟨W0, hW0⟩ : ∃ W0 : World, W0 = wr.drewN nq := ⟨_, rfl⟩
          have hK0 : Below wr.heap.size wr W0 := by rw [hW0]; exact below_drewN (Below.refl _ _) _
          rw [← hW0]
          have HR' := Lib.hid (HR.out.keep hK0)
          have HC' := Lib.hid (HC.out.keep hK0)
          have HK' := Lib.hid (HK.out.trans (hK0.mono HK.out.size))
          clear hz0' hz1' hW0 hK0
          go_wp2_with (at_builtin; refine wpList_append_row rfl _ _ 31 rfl W0.heap.size 75 i0 _ 2 24 Try.underlying31 hi hz0 hz1 hz2 rfl (by decide) rfl (World.ownsRow_nil W0 W0.heap.size _ _) rfl (HR'.out.take (m := j) (by omega)) ?a1 ?a2 (by decide) ?a3 ?_)
          case a1 => exact by rw [entC_take]; exact entC_one _
          case a2 => omega
          case a3 => exact Nat.le_refl _
          intro v1 W1 ho1 hg1
          have hb1 : Below W0.heap.size W0 W1 := below_row hg1 (fun k hk => by cases hk) (Nat.le_refl _)
          have HC1' := Lib.hid (HC'.out.keep hb1)
          have HB1 := Lib.hid hb1
          have HO1 := Lib.hid ho1
          clear ho1 hg1 hb1
          have y0 := HC1'.out.at_ 0
          have y1 := HC1'.out.at_ 1
          simp only [List.getElem?_cons_zero, List.getElem?_cons_succ] at y0 y1
          go_wp2_with (at_builtin; refine wpList_append_row rfl _ _ 31 rfl W0.heap.size 75 i0 _ 2 24 Try.underlying31 hi hz0 hz1 hz2 rfl (by decide) rfl (HO1.out.alloc _) rfl (RowAt.fresh W1 75 2 1 #[.string x.1, .int .i64 (x.2 : Nat)] rfl (by decide)) ?b1 ?b2 (by decide) ?b3 ?_)
          case b1 => exact ⟨rfl, rfl⟩
          case b2 => omega
          case b3 => exact size_le HB1.out.size
          intro v2 W2 ho2 hg2
          have hb2 : Below W0.heap.size W1 W2 := ((Below.refl W0.heap.size W1).alloc HB1.out.size _).trans (below_row hg2 (fun k hk => own_ge HO1.out hk) (size_le HB1.out.size))
          have HB2 := Lib.hid (HB1.out.trans hb2)
          have HR3 := Lib.hid (HR'.out.keep HB2.out)
          have HO2 := Lib.hid ho2
          clear ho2 hg2 hb2 y0 y1
          obtain ⟨A3, c3, rfl, hc31, hc32, hA3, _⟩ := own_row HO2.out
          obtain ⟨g3, rfl⟩ := hA3 (by omega)
          have hc33 : j + 1 ≤ c3 := by omega
          have HB3 := Lib.hid (HK'.out.trans (HB2.out.mono HK'.out.size))
          have HO3 := Lib.hid (own_down HO2.out HK'.out.size)
          clear hc31 hA3
          go_wp2_with fail
          go_ret
          refine ⟨_, rfl, ?_, HB3.out⟩
          have h9 := HO3.out
          unfold withM
          simp only
          rw [HL.out, HS.out]
          rw [entC_take] at h9
          have e9 : entC (L.take j ++ [x] ++ L.drop j) = entC (L.take j) ++ entC [x] := by rw [List.drop_of_length_le (by have := HQ.out; omega), List.append_nil, entC_app]
          exact own_ent (by rw [e9]; exact h9)
end Go.Proofs.Ytbmogecnepgnaaa
