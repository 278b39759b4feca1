/- A list of sets without those that a predicate holds of. -/
import Derived.Test.YthocdmlacfejkaaDoorIdx
import Derived.Test.YthocdmlacfejkaaDoorCmp
import Derived.Laws.IdiomCopy
import Derived.Lib.SliceRun
import Derived.Lib.LazyBuf
namespace Go.Proofs.YthocdmlacfejkaaDoor
open Go.RowKit
theorem u64s_len (l : List Nat) : (u64s l).length = l.length := by unfold u64s; simp
theorem u64s_set (l : List Nat) (tl : List Value) (i x : Nat) (hi : i < l.length) : (u64s l ++ tl).set i (.int .u64 (x : Nat)) = u64s (l.set i x) ++ tl := by
  rw [List.set_append_left _ _ (by rw [u64s_len]; exact hi)]
  unfold u64s
  rw [List.map_set]
theorem u64s_at {l : List Nat} (tl : List Value) {k x : Nat} (h : l[k]? = some x) : (u64s l ++ tl)[k]? = some (.int .u64 (x : Nat)) := by
  have hk : k < l.length := by
    rcases Nat.lt_or_ge k l.length with h1 | h1
    · exact h1
    · rw [List.getElem?_eq_none h1] at h; cases h
  rw [List.getElem?_append_left (by rw [u64s_len]; exact hk)]
  unfold u64s
  rw [List.getElem?_map, h]
  rfl
/-- A row of sets with room behind it. -/
theorem own_rowS {w : World} {base : Nat} {v : Value} {l : List Nat} (h : w.ownsRow base 98 1 v l.length (u64s l)) (h0 : l ≠ []) : ∃ g c tl, v = .slice (some ⟨g, 0, none⟩) l.length c ∧ base ≤ g ∧ Cells w g (u64s l ++ tl) ∧ l.length ≤ c := by
  rcases h.2 with ⟨rfl, h1⟩ | ⟨g, cap, cur, rfl, hg, hh, hnc, hcm, hcs, hx⟩
  · exact absurd (List.eq_nil_of_length_eq_zero h1) h0
  · refine ⟨g, cap, cur.toList.drop l.length, rfl, hg, ?_, hnc⟩
    have hc := Cells.of_row hh
    rw [Nat.mul_one] at hx
    rw [← hx, List.take_append_drop]
    exact hc
/-- The pass that keeps in place: what lies there behind j steps. -/
structure Pass (l : List Nat) (del : Nat → Bool) (j : Nat) (l' : List Nat) (i : Nat) : Prop where
  len : l'.length = l.length
  lt : i < j
  eq : i = ((l.take j).filter fun x => !del x).length
  took : l'.take i = (l.take j).filter fun x => !del x
  rest : ∀ k, j ≤ k → l'[k]? = l[k]?
theorem Pass.start {l : List Nat} {del : Nat → Bool} {k x : Nat} (hx : l[k]? = some x) (hd : del x = true) (hall : ∀ y ∈ l.take k, del y = false) : Pass l del (k + 1) l k := by
  have hk : k < l.length := by
    rcases Nat.lt_or_ge k l.length with h1 | h1
    · exact h1
    · rw [List.getElem?_eq_none h1] at hx; cases hx
  have hf : ((l.take (k + 1)).filter fun x => !del x) = l.take k := by
    rw [List.take_add_one, hx, List.filter_append]
    simp [hd]
    exact fun a ha => hall a ha
  refine ⟨rfl, Nat.lt_succ_self _, ?_, ?_, fun _ _ => rfl⟩
  · rw [hf, List.length_take]; omega
  · rw [hf]
theorem Pass.skip {l l' : List Nat} {del : Nat → Bool} {j i x : Nat} (h : Pass l del j l' i) (hx : l[j]? = some x) (hd : del x = true) : Pass l del (j + 1) l' i := by
  have hf : ((l.take (j + 1)).filter fun x => !del x) = (l.take j).filter fun x => !del x := by
    rw [List.take_add_one, hx, List.filter_append]
    simp [hd]
  exact ⟨h.len, by have := h.lt; omega, by rw [hf]; exact h.eq, by rw [hf]; exact h.took, fun k hk => h.rest k (by omega)⟩
theorem Pass.keep {l l' : List Nat} {del : Nat → Bool} {j i x : Nat} (h : Pass l del j l' i) (hx : l[j]? = some x) (hd : del x = false) (hj : j < l.length) : Pass l del (j + 1) (l'.set i x) (i + 1) := by
  have hf : ((l.take (j + 1)).filter fun x => !del x) = ((l.take j).filter fun x => !del x) ++ [x] := by
    rw [List.take_add_one, hx, List.filter_append]
    simp [hd]
  have hi := h.lt
  have hl := h.len
  refine ⟨by simpa using h.len, by omega, ?_, ?_, fun k hk => ?_⟩
  · rw [hf, List.length_append, ← h.eq]; rfl
  · rw [hf, ← h.took, List.take_add_one, List.take_set_of_le (Nat.le_refl _), List.getElem?_set_self (by omega)]
    rfl
  · rw [List.getElem?_set_ne (by omega)]
    exact h.rest k (by omega)
theorem set_zero (w : World) : (zeroValue 98).run Tryd.prog w = .ok (.int .u64 0) w := by
  obtain ⟨i, hi, hz, _, _⟩ := info_parts info_set
  simp [zeroValue, typeInfo, hi, hz]
set_option maxRecDepth 100000 in
set_option maxHeartbeats 8000000 in
theorem delete_any (B g c : Nat) (l : List Nat) (tl : List Value) (del : Nat → Bool) (y : Value) (w : World) (h : Cells w g (u64s l ++ tl)) (hB : B ≤ g) (hl : ∀ x ∈ l, x < 18446744073709551616) (hn : l.length ≤ 1000) (hc : l.length ≤ c)
    (hF : ∀ w' x, x < 18446744073709551616 → Below B w w' → Calls Tryd.prog 98 #[.int .u64 (x : Nat), y] w' fun e w2 => e = .returned (.bool (del x)) ∧ Below w'.heap.size w' w2) :
    Calls Tryd.prog 99 #[.slice (some ⟨g, 0, none⟩) l.length c, .func (.func 98) #[] #[y]] w fun e w' => ∃ k c', e = .returned (.slice (some ⟨g, 0, none⟩) k c') ∧ k = (l.filter fun x => !del x).length ∧ UL B w' (some ⟨g, 0, none⟩) (l.filter fun x => !del x) ∧ Below B w w' := by
  have hgl := h.lt
  have hU : UL B w (some ⟨g, 0, none⟩) l := fun k n hk => ⟨g, 0, rfl, hB, h.lt, by rw [h.at_, Nat.zero_add]; exact u64s_at tl hk⟩
  have HI := Lib.hid (index_any B (some ⟨g, 0, none⟩) c l del y w hU hl hn (fun w' x hx hb => hF w' x hx (hb.mono (by omega))))
  have HF := Lib.hid hF
  have Hl := Lib.hid hl
  have C0 := Lib.hid h
  have U0 := Lib.hid hU
  clear hF hl h hU
  go_enter Tryd.func99, Tryd.ntmps99
  go_wp2_with fail
  refine HI.out.mono ?_
  rintro e w1 ⟨hc1, hb1⟩
  have B1 := Lib.hid (hb1.mono (show B ≤ w.heap.size by omega))
  have C1 := Lib.hid (C0.out.keep hb1)
  rcases hc1 with ⟨hno, rfl⟩ | ⟨k, x, hx, hd, hall, rfl⟩
  · have hf : (l.filter fun x => !del x) = l := List.filter_eq_self.2 fun a ha => by rw [hno a ha]; rfl
    have Hf := Lib.hid hf
    have U1 := Lib.hid (U0.out.keep hb1)
    clear hb1 hno hf
    go_wp2_with fail
    go_ret
    exact ⟨_, _, rfl, by rw [Hf.out], by rw [Hf.out]; exact U1.out, B1.out⟩
  · have hk : k < l.length := by
      rcases Nat.lt_or_ge k l.length with h1 | h1
      · exact h1
      · rw [List.getElem?_eq_none h1] at hx; cases hx
    have P1 := Lib.hid (Pass.start hx hd hall)
    have tk : ((k : Int) == -1) = false := by simp
    have Hsz := Lib.hid hb1.size
    clear hb1 hx hd hall
    go_wp2_with fail
    go_loopw [6, 5] (fun jv iv wr => ∃ (j i : Nat) (l' : List Nat), jv = .int .i64 (j : Nat) ∧ iv = .int .i64 (i : Nat) ∧ j ≤ l.length ∧ Pass l del j l' i ∧ Cells wr g (u64s l' ++ tl) ∧ Below B w wr) (fun jv _ _ => l.length - (intOf jv).toNat)
    case atStart => exact ⟨k + 1, k, l, by go_num, rfl, hk, P1.out, C1.out, B1.out⟩
    case round =>
      obtain ⟨j, i, l', rfl, rfl, hj, hp, hcl, hb⟩ := hrel
      have P6 := Lib.hid hp
      have C6 := Lib.hid hcl
      have B6 := Lib.hid hb
      have hij := hp.lt
      have hll := hp.len
      obtain ⟨yy, hyy⟩ : ∃ yy, l'[i]? = some yy := ⟨_, List.getElem?_eq_getElem (by omega)⟩
      have ci := Lib.hid hyy
      clear hp hcl hb hyy
      obtain ⟨wa, rfl⟩ : ∃ wa : World, wa = wr := ⟨_, rfl⟩
      by_cases hlt : j < l.length
      · have hx := List.getElem?_eq_getElem hlt
        obtain ⟨x, hx0⟩ : ∃ x, l[j] = x := ⟨_, rfl⟩
        rw [hx0] at hx
        have Hlt := Lib.hid hlt
        have Hx := Lib.hid hx
        have hx64 := Hl.out x (List.mem_of_getElem? hx)
        have cj := (C6.out.at_ j).trans (u64s_at tl ((P6.out.rest j (Nat.le_refl _)).trans hx))
        have HFx := HF.out wa x hx64 B6.out
        obtain ⟨bx, hbx⟩ : ∃ bx, del x = bx := ⟨_, rfl⟩
        rw [hbx] at HFx
        have HFx := Lib.hid HFx
        have Hb := Lib.hid hbx
        have Hll := Lib.hid hll
        clear hx hx0 hbx hll
        go_wp2_with fail
        refine HFx.out.mono ?_
        rintro e w7 ⟨rfl, hb7⟩
        have B7 := Lib.hid (B6.out.trans (hb7.mono (by have := C6.out.lt; omega)))
        have C7 := Lib.hid (C6.out.keep hb7)
        clear hb7 cj
        cases bx
        · have ci := (C7.out.at_ i).trans (u64s_at tl ci.out)
          have fi := C7.out.fz i
          go_wp2_with fail
          go_roundw
          case rel => exact ⟨j + 1, i + 1, l'.set i x, by go_num, by go_num, Hlt.out, P6.out.keep Hx.out Hb.out Hlt.out, by rw [← u64s_set l' tl i x (by have := Hll.out; have := Hlt.out; omega)]; exact C7.out.set i _ (by rw [List.length_append, u64s_len]; have := Hll.out; have := Hlt.out; omega), B7.out.setCell hB _⟩
          case measure => simp [intOf]; have := Hlt.out; omega
        · go_wp2_with fail
          go_roundw
          case rel => exact ⟨j + 1, i, l', by go_num, rfl, Hlt.out, P6.out.skip Hx.out Hb.out, C7.out, B7.out⟩
          case measure => simp [intOf]; have := Hlt.out; omega
      · have hjl : j = l.length := by omega
        subst hjl
        have hd := Lib.hid (fun ty => Lib.run_clear_slice (P := Tryd.prog) wa 103 98 ty (.int .u64 0) Tryd.underlying103 set_zero rfl rfl g i (l.length - i) (c - i) (by omega) (fun q hq => by rw [C6.out.at_, List.getElem?_append_left (by rw [u64s_len]; omega), List.getElem?_eq_getElem (by rw [u64s_len]; omega)]; rfl) (fun q _ => C6.out.fz _))
        have hclr := hd.out
        have R6 := Lib.hid (show UL B (wa.setCells g i (List.replicate (l.length - i) (.int .u64 0))) (some ⟨g, 0, none⟩) (l'.take i) from fun q n hq => by
          have hqi : q < i := by
            rcases Nat.lt_or_ge q (l'.take i).length with h1 | h1
            · rw [List.length_take] at h1; omega
            · rw [List.getElem?_eq_none h1] at hq; cases hq
          refine ⟨g, 0, rfl, hB, ?_, ?_⟩
          · have := (Go.below_setCells (B := B) (a := wa) (b := g) hB (List.replicate (l.length - i) (.int .u64 0)) i wa (Below.refl B wa)).size
            have := C6.out.lt
            omega
          · rw [World.cell?_setCells_out g _ i wa _ (fun _ _ => .inl (by simp; omega)), Nat.zero_add, C6.out.at_]
            exact u64s_at tl (by rw [List.getElem?_take_of_lt hqi] at hq; exact hq))
        have hlf : (l.filter fun x => !del x) = l'.take i := by rw [P6.out.took, List.take_length]
        have Hlf := Lib.hid hlf
        have Hlen := Lib.hid (show i = (l.filter fun x => !del x).length by rw [hlf, List.length_take]; omega)
        have B8 := Lib.hid (Go.below_setCells (b := g) hB (List.replicate (l.length - i) (.int .u64 0)) i wa B6.out)
        clear hlf hd
        go_wp2_with fail
        go_ret
        refine ⟨_, _, rfl, Hlen.out, by rw [Hlf.out]; exact R6.out, B8.out⟩
end Go.Proofs.YthocdmlacfejkaaDoor
