/- The reference: decode, literals of some options from a list of numbers. -/
import Derived.Test.YtmfmpkihmadjmaaVh
namespace Go.Proofs.Ytmfmpkihmadjmaa
open Go.RowKit Go.Shelf
/-- Small numbers in memory. -/
def I8L (w : World) (A : Option Addr) (l : List Int) : Prop :=
  ∀ k x, l[k]? = some x → ∃ b o, A = some ⟨b, o, none⟩ ∧ b < w.heap.size ∧ w.cell? ⟨b, o + k, none⟩ = some (.int .i8 x)
theorem I8L.keep {w w' : World} {A : Option Addr} {l : List Int} (h : I8L w A l) (hb : Below w.heap.size w w') : I8L w' A l :=
  fun k x hk => let ⟨b, o, e1, hlt, hc⟩ := h k x hk; ⟨b, o, e1, Nat.lt_of_lt_of_le hlt hb.size, (hb.cell (p := ⟨b, o + k, none⟩) hlt).trans hc⟩
/-- What decode has found behind j numbers. -/
def dAt (n : Nat) (l : List Int) : Nat → List Int
  | 0 => List.replicate 12 0
  | j + 1 => match l[j]? with
    | none => dAt n l j
    | some k => (dAt n l j).set (k.natAbs % n) (if k < 0 then -1 else 1)
theorem dAt_len (n : Nat) (l : List Int) : ∀ j, (dAt n l j).length = 12
  | 0 => by simp [dAt]
  | j + 1 => by
    rw [dAt]
    split
    · exact dAt_len n l j
    · rw [List.length_set]; exact dAt_len n l j
theorem dAt_set {n : Nat} {l : List Int} {j : Nat} {k : Int} (h : l[j]? = some k) : dAt n l (j + 1) = (dAt n l j).set (k.natAbs % n) (if k < 0 then -1 else 1) := by
  rw [dAt, h]
theorem dAt_small (n : Nat) (l : List Int) : ∀ j x, x ∈ dAt n l j → x = 0 ∨ x = 1 ∨ x = -1
  | 0, x, h => .inl (by simp [dAt] at h; exact h)
  | j + 1, x, h => by
    rw [dAt] at h
    split at h
    · exact dAt_small n l j x h
    · rcases List.mem_or_eq_of_mem_set h with h1 | h1
      · exact dAt_small n l j x h1
      · subst h1
        split
        · exact .inr (.inr rfl)
        · exact .inr (.inl rfl)
def dLs (at_ : List Int) : Nat → List (Nat × Bool)
  | 0 => []
  | i + 1 => match at_[i]? with
    | none => dLs at_ i
    | some v => if v = 0 then dLs at_ i else dLs at_ i ++ [(i, decide (0 < v))]
theorem dLs_no {at_ : List Int} {i : Nat} (h : at_[i]? = some 0) : dLs at_ (i + 1) = dLs at_ i := by
  rw [dLs, h]
  simp
theorem dLs_yes {at_ : List Int} {i : Nat} {v : Int} (h : at_[i]? = some v) (hv : v ≠ 0) : dLs at_ (i + 1) = dLs at_ i ++ [(i, decide (0 < v))] := by
  rw [dLs, h]
  simp [hv]
theorem dLs_len (at_ : List Int) : ∀ i, (dLs at_ i).length ≤ i
  | 0 => Nat.le_refl _
  | i + 1 => by
    have := dLs_len at_ i
    rw [dLs]
    split
    · omega
    · split
      · omega
      · simp; omega
/-- The literals that a list of numbers says. -/
def decN (n : Nat) (l : List Int) : List (Nat × Bool) := dLs (dAt n l (min l.length 12)) n
def intsV (l : List Int) : List Value := l.map (.int .i64)
theorem intsV_at {l : List Int} {i : Nat} {x : Int} (h : l[i]? = some x) : (intsV l)[i]? = some (.int .i64 x) := by unfold intsV; rw [List.getElem?_map, h]; rfl
theorem intsV_set (l : List Int) (i : Nat) (x : Int) : (intsV l).set i (.int .i64 x) = intsV (l.set i x) := by unfold intsV; rw [List.map_set]
theorem cells_push {B0 p sz n : Nat} {T : TypeId} {x y : World} {o : Obj} {v : Value} {xs vs : List Value} (ho : x.ownsRow B0 T sz v n xs) (hp : p < B0) (hc : Cells x p vs) (hg : (x.alloc o).grownBy y v.ownBlock) : Cells y p vs := by
  have hc' := hc.keep ((Below.refl x.heap.size x).alloc (Nat.le_refl _) o)
  have e : y.heap[p]? = (x.alloc o).heap[p]? := hg.block p hc'.lt (fun e => by have := own_ge ho e.symm; omega)
  exact ⟨fun i => (World.cell?_of_block (a := ⟨p, i, none⟩) e).trans (hc'.at_ i), fun i => (World.frozen?_of_block (a := ⟨p, i, none⟩) e).trans (hc'.fz i), Nat.lt_of_lt_of_le hc'.lt hg.size⟩
set_option maxRecDepth 100000 in
set_option maxHeartbeats 8000000 in
theorem decode_any (n : Nat) (A : Option Addr) (m c : Nat) (l : List Int) (w : World) (h : I8L w A l) (hm : l.length = m) (hn : 0 < n) (hn6 : n ≤ 6) (hb8 : ∀ k ∈ l, -128 ≤ k ∧ k < 128) :
    Calls Try.prog 25 #[.int .i64 (n : Nat), .slice A m c] w fun e w' => ∃ v, e = .returned v ∧ w'.ownsRow w.heap.size 68 2 v (decN n l).length (litV (decN n l)) ∧ Below w.heap.size w w' := by
  have kP := (Below.refl w.heap.size w).alloc (Nat.le_refl _) (.cells #[.int .i64 0, .int .i64 0, .int .i64 0, .int .i64 0, .int .i64 0, .int .i64 0, .int .i64 0, .int .i64 0, .int .i64 0, .int .i64 0, .int .i64 0, .int .i64 0] 118)
  have CP := Cells.new w #[.int .i64 0, .int .i64 0, .int .i64 0, .int .i64 0, .int .i64 0, .int .i64 0, .int .i64 0, .int .i64 0, .int .i64 0, .int .i64 0, .int .i64 0, .int .i64 0] 118
  have HK0 := Lib.hid kP
  have HC0 := Lib.hid CP
  clear kP CP
  go_enter Try.func25, Try.ntmps25
  go_wp2_with fail
  go_loopw [6, 7] (fun i _ wr => ∃ j : Nat, i = .int .i64 (j : Nat) ∧ j ≤ min m 12 ∧ Cells wr w.heap.size (intsV (dAt n l j)) ∧ Below w.heap.size w wr) (fun i _ _ => 12 - (intOf i).toNat)
  case atStart => exact ⟨0, rfl, Nat.zero_le _, HC0.out, HK0.out⟩
  case round =>
    obtain ⟨j, rfl, hj, hC, hb⟩ := hrel
    have HC := Lib.hid hC
    have HB := Lib.hid hb
    by_cases hlt : j < m
    · by_cases hl12 : j < 12
      · obtain ⟨k, hk⟩ : ∃ k, l[j]? = some k := ⟨_, List.getElem?_eq_getElem (by omega)⟩
        obtain ⟨b, o, rfl, _, hc⟩ := (h.keep hb) j k hk
        obtain ⟨r, hr⟩ : ∃ r, k.natAbs % n = r := ⟨_, rfl⟩
        have hrn : r < n := by rw [← hr]; exact Nat.mod_lt _ hn
        have hk8 := hb8 k (List.mem_of_getElem? hk)
        have Hst := Lib.hid (dAt_set (n := n) hk)
        have i1 : (j : Int) < (m : Int) := by omega
        have i2 : (j : Int) < 12 := by omega
        have e0 : IntKind.i64.wrap k = k := IntWalk.i64_in _ (by omega)
        have n0 : ((n : Int) == 0) = false := by rw [beq_eq_false_iff_ne]; omega
        have n1 : ¬ ((n : Int) = 0) := by omega
        have r1 : (r : Int) < 12 := by omega
        have r3 : r < 12 := by omega
        have hold := (hC.at_ r).trans (List.getElem?_eq_getElem (by unfold intsV; rw [List.length_map, dAt_len]; omega))
        have hfz := hC.fz r
        by_cases hneg : k < 0
        · have e1 : IntKind.i64.wrap (0 - k) = -k := by rw [Int.zero_sub]; exact IntWalk.i64_in _ (by omega)
          have e2 : IntKind.i64.wrap (-k) = -k := IntWalk.i64_in _ (by omega)
          have e3 : Int.tmod (-k) (n : Int) = (r : Int) := by
            rw [← hr, show -k = ((k.natAbs : Nat) : Int) by omega]
            exact (Int.ofNat_tmod _ _).symm
          have e4 : IntKind.i64.wrap (r : Int) = (r : Int) := IntWalk.i64_in _ (by omega)
          have hr := Lib.hid hr
          clear hC hb hk h hb8
          have stN := (Cells.set HC.out r (.int .i64 (-1)) (by unfold intsV; rw [List.length_map, dAt_len]; omega))
          rw [intsV_set] at stN
          have kN := HB.out.setCell (p := ⟨w.heap.size, r, none⟩) (Nat.le_refl _) (.int .i64 (-1))
          have hst := Hst.out
          rw [show (if k < 0 then (-1 : Int) else 1) = -1 by rw [if_pos hneg], hr.out] at hst
          have HN := Lib.hid stN
          have KN := Lib.hid kN
          have Hst := Lib.hid hst
          clear stN kN hst
          go_wp2_with fail
          go_roundw
          case rel => exact ⟨j + 1, by go_num, by omega, by rw [Hst.out]; exact HN.out, KN.out⟩
          case measure => simp [intOf]; omega
        · have e3 : Int.tmod k (n : Int) = (r : Int) := by
            rw [← hr, show k = ((k.natAbs : Nat) : Int) by omega]
            exact (Int.ofNat_tmod _ _).symm
          have e4 : IntKind.i64.wrap (r : Int) = (r : Int) := IntWalk.i64_in _ (by omega)
          have hr := Lib.hid hr
          clear hC hb hk h hb8
          have stN := (Cells.set HC.out r (.int .i64 (1)) (by unfold intsV; rw [List.length_map, dAt_len]; omega))
          rw [intsV_set] at stN
          have kN := HB.out.setCell (p := ⟨w.heap.size, r, none⟩) (Nat.le_refl _) (.int .i64 (1))
          have hst := Hst.out
          rw [show (if k < 0 then (-1 : Int) else 1) = 1 by rw [if_neg hneg], hr.out] at hst
          have HN := Lib.hid stN
          have KN := Lib.hid kN
          have Hst := Lib.hid hst
          clear stN kN hst
          go_wp2_with fail
          go_roundw
          case rel => exact ⟨j + 1, by go_num, by omega, by rw [Hst.out]; exact HN.out, KN.out⟩
          case measure => simp [intOf]; omega
      · have g1 : ¬ ((j : Int) < 12) := by omega
        have i1 : (j : Int) < (m : Int) := by omega
        have hmin : j = min m 12 := by omega
        obtain ⟨ats, hats⟩ : ∃ a, dAt n l (min m 12) = a := ⟨_, rfl⟩
        rw [hmin, hats] at hC
        have hal : ats.length = 12 := by rw [← hats]; exact dAt_len _ _ _
        have hsm : ∀ x ∈ ats, x = 0 ∨ x = 1 ∨ x = -1 := by rw [← hats]; exact dAt_small _ _ _
        have HAt := Lib.hid (show decN n l = dLs ats n by unfold decN; rw [hm, hats])
        obtain ⟨w1, rfl⟩ : ∃ u : World, u = wr := ⟨_, rfl⟩
        have HC1 := Lib.hid hC
        have hCP := hC.lt
        have H1p := Lib.hid hCP
        have HB1 := Lib.hid hb
        obtain ⟨i0, hi, hz0, hz1, hz2⟩ := info_parts info_lit
        clear hC hb h hb8 HC HB hCP
        go_wp2_with fail
        go_loopw [8, 9] (fun v i wr => ∃ j : Nat, i = .int .i64 (j : Nat) ∧ j ≤ n ∧ wr.ownsRow w1.heap.size 68 2 v (dLs ats j).length (litV (dLs ats j)) ∧ Cells wr w.heap.size (intsV ats) ∧ Below w.heap.size w wr ∧ w1.heap.size ≤ wr.heap.size) (fun _ i _ => n - (intOf i).toNat)
        case atStart => exact ⟨0, rfl, Nat.zero_le _, World.ownsRow_nil _ _ _ _, HC1.out, HB1.out, Nat.le_refl _⟩
        case round =>
          obtain ⟨j, rfl, hj, hown, hC, hb, hsz⟩ := hrel
          have Ow := Lib.hid hown
          have HC := Lib.hid hC
          have HB := Lib.hid hb
          have Hsz := Lib.hid hsz
          by_cases hlt : j < n
          · have Hlen := Lib.hid (dLs_len ats j)
            obtain ⟨x, hx⟩ : ∃ x, ats[j]? = some x := ⟨_, List.getElem?_eq_getElem (by omega)⟩
            have hc := (hC.at_ j).trans (intsV_at hx)
            have i1 : (j : Int) < (n : Int) := by omega
            have i2 : (j : Int) < 12 := by omega
            have i3 : j < 12 := by omega
            rcases hsm x (List.mem_of_getElem? hx) with rfl | rfl | rfl
            · have Hn := Lib.hid (dLs_no hx)
              clear hown hC hb hsz hx
              go_wp2_with fail
              go_roundw
              case rel => exact ⟨j + 1, by go_num, by omega, by rw [Hn.out]; exact Ow.out, HC.out, HB.out, Hsz.out⟩
              case measure => simp [intOf]; omega
            · have Hy := Lib.hid (dLs_yes hx (by decide))
              clear hown hC hb hsz hx
              go_wp2_with (at_builtin; refine wpList_append_own _ rfl _ _ 55 rfl w1.heap.size 68 i0 (.agg #[.int .i64 0, .bool false]) 2 16 Try.underlying55 hi hz0 hz1 hz2 rfl (by decide) _ _ _ rfl (Ow.out.alloc _) ⟨wr.heap.size, 0, none⟩ 1 1 [.int .i64 (j : Nat), .bool true] rfl rfl ?c1 ?c2 ?c3 ?c4 ?c5 ?_)
              case c1 =>
                intro k u hu
                match k, hu with
                  | 0, hu => simp at hu; subst hu; simp [Addr.add]
                  | 1, hu => simp at hu; subst hu; simp [Addr.add]
              case c2 => intro u hu; simp at hu; rcases hu with rfl | rfl <;> rfl
              case c3 => unfold maxLen; have := Hlen.out; omega
              case c4 => have := Hlen.out; omega
              case c5 => simp; have := Hsz.out; omega
              intro v' w3 hown' hgrow _
              have Ow3 := Lib.hid (show w3.ownsRow w1.heap.size 68 2 v' (dLs ats (j + 1)).length (litV (dLs ats (j + 1))) by
                rw [Hy.out]
                unfold litV
                rw [List.flatMap_append, List.length_append]
                exact hown')
              have C3 := Lib.hid (cells_push Ow.out H1p.out HC.out hgrow)
              have B3 := Lib.hid ((HB.out.alloc (by have := Hsz.out; have := H1p.out; omega) (.cells #[.int .i64 (j : Nat), .bool true] 68)).grown hgrow (by simp; have := Hsz.out; have := H1p.out; omega) (fun k hk => by have := own_ge Ow.out hk; have := H1p.out; omega))
              have S3 := Lib.hid (Nat.le_trans Hsz.out (Nat.le_trans (by simp) hgrow.size) : w1.heap.size ≤ w3.heap.size)
              clear hown' hgrow
              go_wp2
              go_roundw
              case rel => exact ⟨j + 1, by go_num, by omega, Ow3.out, C3.out, B3.out, S3.out⟩
              case measure => simp [intOf]; omega
            · have Hy := Lib.hid (dLs_yes hx (by decide))
              clear hown hC hb hsz hx
              go_wp2_with (at_builtin; refine wpList_append_own _ rfl _ _ 55 rfl w1.heap.size 68 i0 (.agg #[.int .i64 0, .bool false]) 2 16 Try.underlying55 hi hz0 hz1 hz2 rfl (by decide) _ _ _ rfl (Ow.out.alloc _) ⟨wr.heap.size, 0, none⟩ 1 1 [.int .i64 (j : Nat), .bool false] rfl rfl ?c1 ?c2 ?c3 ?c4 ?c5 ?_)
              case c1 =>
                intro k u hu
                match k, hu with
                  | 0, hu => simp at hu; subst hu; simp [Addr.add]
                  | 1, hu => simp at hu; subst hu; simp [Addr.add]
              case c2 => intro u hu; simp at hu; rcases hu with rfl | rfl <;> rfl
              case c3 => unfold maxLen; have := Hlen.out; omega
              case c4 => have := Hlen.out; omega
              case c5 => simp; have := Hsz.out; omega
              intro v' w3 hown' hgrow _
              have Ow3 := Lib.hid (show w3.ownsRow w1.heap.size 68 2 v' (dLs ats (j + 1)).length (litV (dLs ats (j + 1))) by
                rw [Hy.out]
                unfold litV
                rw [List.flatMap_append, List.length_append]
                exact hown')
              have C3 := Lib.hid (cells_push Ow.out H1p.out HC.out hgrow)
              have B3 := Lib.hid ((HB.out.alloc (by have := Hsz.out; have := H1p.out; omega) (.cells #[.int .i64 (j : Nat), .bool false] 68)).grown hgrow (by simp; have := Hsz.out; have := H1p.out; omega) (fun k hk => by have := own_ge Ow.out hk; have := H1p.out; omega))
              have S3 := Lib.hid (Nat.le_trans Hsz.out (Nat.le_trans (by simp) hgrow.size) : w1.heap.size ≤ w3.heap.size)
              clear hown' hgrow
              go_wp2
              go_roundw
              case rel => exact ⟨j + 1, by go_num, by omega, Ow3.out, C3.out, B3.out, S3.out⟩
              case measure => simp [intOf]; omega
          · have hjn : j = n := by omega
            subst hjn
            rw [← HAt.out] at hown
            go_wp2_with fail
            go_ret
            exact ⟨_, rfl, own_down hown HB1.out.size, hb⟩
    · have g1 : ¬ ((j : Int) < (m : Int)) := by omega
      have hmin : j = min m 12 := by omega
      obtain ⟨ats, hats⟩ : ∃ a, dAt n l (min m 12) = a := ⟨_, rfl⟩
      rw [hmin, hats] at hC
      have hal : ats.length = 12 := by rw [← hats]; exact dAt_len _ _ _
      have hsm : ∀ x ∈ ats, x = 0 ∨ x = 1 ∨ x = -1 := by rw [← hats]; exact dAt_small _ _ _
      have HAt := Lib.hid (show decN n l = dLs ats n by unfold decN; rw [hm, hats])
      obtain ⟨w1, rfl⟩ : ∃ u : World, u = wr := ⟨_, rfl⟩
      have HC1 := Lib.hid hC
      have hCP := hC.lt
      have H1p := Lib.hid hCP
      have HB1 := Lib.hid hb
      obtain ⟨i0, hi, hz0, hz1, hz2⟩ := info_parts info_lit
      clear hC hb h hb8 HC HB hCP
      go_wp2_with fail
      go_loopw [8, 9] (fun v i wr => ∃ j : Nat, i = .int .i64 (j : Nat) ∧ j ≤ n ∧ wr.ownsRow w1.heap.size 68 2 v (dLs ats j).length (litV (dLs ats j)) ∧ Cells wr w.heap.size (intsV ats) ∧ Below w.heap.size w wr ∧ w1.heap.size ≤ wr.heap.size) (fun _ i _ => n - (intOf i).toNat)
      case atStart => exact ⟨0, rfl, Nat.zero_le _, World.ownsRow_nil _ _ _ _, HC1.out, HB1.out, Nat.le_refl _⟩
      case round =>
        obtain ⟨j, rfl, hj, hown, hC, hb, hsz⟩ := hrel
        have Ow := Lib.hid hown
        have HC := Lib.hid hC
        have HB := Lib.hid hb
        have Hsz := Lib.hid hsz
        by_cases hlt : j < n
        · have Hlen := Lib.hid (dLs_len ats j)
          obtain ⟨x, hx⟩ : ∃ x, ats[j]? = some x := ⟨_, List.getElem?_eq_getElem (by omega)⟩
          have hc := (hC.at_ j).trans (intsV_at hx)
          have i1 : (j : Int) < (n : Int) := by omega
          have i2 : (j : Int) < 12 := by omega
          have i3 : j < 12 := by omega
          rcases hsm x (List.mem_of_getElem? hx) with rfl | rfl | rfl
          · have Hn := Lib.hid (dLs_no hx)
            clear hown hC hb hsz hx
            go_wp2_with fail
            go_roundw
            case rel => exact ⟨j + 1, by go_num, by omega, by rw [Hn.out]; exact Ow.out, HC.out, HB.out, Hsz.out⟩
            case measure => simp [intOf]; omega
          · have Hy := Lib.hid (dLs_yes hx (by decide))
            clear hown hC hb hsz hx
            go_wp2_with (at_builtin; refine wpList_append_own _ rfl _ _ 55 rfl w1.heap.size 68 i0 (.agg #[.int .i64 0, .bool false]) 2 16 Try.underlying55 hi hz0 hz1 hz2 rfl (by decide) _ _ _ rfl (Ow.out.alloc _) ⟨wr.heap.size, 0, none⟩ 1 1 [.int .i64 (j : Nat), .bool true] rfl rfl ?c1 ?c2 ?c3 ?c4 ?c5 ?_)
            case c1 =>
              intro k u hu
              match k, hu with
                | 0, hu => simp at hu; subst hu; simp [Addr.add]
                | 1, hu => simp at hu; subst hu; simp [Addr.add]
            case c2 => intro u hu; simp at hu; rcases hu with rfl | rfl <;> rfl
            case c3 => unfold maxLen; have := Hlen.out; omega
            case c4 => have := Hlen.out; omega
            case c5 => simp; have := Hsz.out; omega
            intro v' w3 hown' hgrow _
            have Ow3 := Lib.hid (show w3.ownsRow w1.heap.size 68 2 v' (dLs ats (j + 1)).length (litV (dLs ats (j + 1))) by
              rw [Hy.out]
              unfold litV
              rw [List.flatMap_append, List.length_append]
              exact hown')
            have C3 := Lib.hid (cells_push Ow.out H1p.out HC.out hgrow)
            have B3 := Lib.hid ((HB.out.alloc (by have := Hsz.out; have := H1p.out; omega) (.cells #[.int .i64 (j : Nat), .bool true] 68)).grown hgrow (by simp; have := Hsz.out; have := H1p.out; omega) (fun k hk => by have := own_ge Ow.out hk; have := H1p.out; omega))
            have S3 := Lib.hid (Nat.le_trans Hsz.out (Nat.le_trans (by simp) hgrow.size) : w1.heap.size ≤ w3.heap.size)
            clear hown' hgrow
            go_wp2
            go_roundw
            case rel => exact ⟨j + 1, by go_num, by omega, Ow3.out, C3.out, B3.out, S3.out⟩
            case measure => simp [intOf]; omega
          · have Hy := Lib.hid (dLs_yes hx (by decide))
            clear hown hC hb hsz hx
            go_wp2_with (at_builtin; refine wpList_append_own _ rfl _ _ 55 rfl w1.heap.size 68 i0 (.agg #[.int .i64 0, .bool false]) 2 16 Try.underlying55 hi hz0 hz1 hz2 rfl (by decide) _ _ _ rfl (Ow.out.alloc _) ⟨wr.heap.size, 0, none⟩ 1 1 [.int .i64 (j : Nat), .bool false] rfl rfl ?c1 ?c2 ?c3 ?c4 ?c5 ?_)
            case c1 =>
              intro k u hu
              match k, hu with
                | 0, hu => simp at hu; subst hu; simp [Addr.add]
                | 1, hu => simp at hu; subst hu; simp [Addr.add]
            case c2 => intro u hu; simp at hu; rcases hu with rfl | rfl <;> rfl
            case c3 => unfold maxLen; have := Hlen.out; omega
            case c4 => have := Hlen.out; omega
            case c5 => simp; have := Hsz.out; omega
            intro v' w3 hown' hgrow _
            have Ow3 := Lib.hid (show w3.ownsRow w1.heap.size 68 2 v' (dLs ats (j + 1)).length (litV (dLs ats (j + 1))) by
              rw [Hy.out]
              unfold litV
              rw [List.flatMap_append, List.length_append]
              exact hown')
            have C3 := Lib.hid (cells_push Ow.out H1p.out HC.out hgrow)
            have B3 := Lib.hid ((HB.out.alloc (by have := Hsz.out; have := H1p.out; omega) (.cells #[.int .i64 (j : Nat), .bool false] 68)).grown hgrow (by simp; have := Hsz.out; have := H1p.out; omega) (fun k hk => by have := own_ge Ow.out hk; have := H1p.out; omega))
            have S3 := Lib.hid (Nat.le_trans Hsz.out (Nat.le_trans (by simp) hgrow.size) : w1.heap.size ≤ w3.heap.size)
            clear hown' hgrow
            go_wp2
            go_roundw
            case rel => exact ⟨j + 1, by go_num, by omega, Ow3.out, C3.out, B3.out, S3.out⟩
            case measure => simp [intOf]; omega
        · have hjn : j = n := by omega
          subst hjn
          rw [← HAt.out] at hown
          go_wp2_with fail
          go_ret
          exact ⟨_, rfl, own_down hown HB1.out.size, hb⟩
end Go.Proofs.Ytmfmpkihmadjmaa
