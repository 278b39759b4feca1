/- components. -/
import Derived.Test.YthocdmlacfejkaaDoorVis
import Derived.Deep.WholeRow
namespace Go.Proofs.YthocdmlacfejkaaDoor
open Go.RowKit
/-- A slice of sets; its cells lie at block B or above. -/
def UL (B : Nat) (w : World) (A : Option Addr) (l : List Nat) : Prop :=
  ∀ k n, l[k]? = some n → ∃ b o, A = some ⟨b, o, none⟩ ∧ B ≤ b ∧ b < w.heap.size ∧ w.cell? ⟨b, o + k, none⟩ = some (.int .u64 (n : Nat))
theorem UL.keep {B : Nat} {w w' : World} {A : Option Addr} {l : List Nat} (h : UL B w A l) (hb : Below w.heap.size w w') : UL B w' A l :=
  fun k n hk => let ⟨b, o, e1, h1, hlt, hc⟩ := h k n hk; ⟨b, o, e1, h1, Nat.lt_of_lt_of_le hlt hb.size, (hb.cell (p := ⟨b, o + k, none⟩) hlt).trans hc⟩
theorem UL.at_ {B : Nat} {w : World} {A : Option Addr} {l : List Nat} (h : UL B w A l) {k : Nat} (hk : k < l.length) : ∃ n b o, l[k]? = some n ∧ A = some ⟨b, o, none⟩ ∧ B ≤ b ∧ b < w.heap.size ∧ w.cell? ⟨b, o + k, none⟩ = some (.int .u64 (n : Nat)) := by
  obtain ⟨b, o, e, hb, hc⟩ := h k l[k] (List.getElem?_eq_getElem hk)
  exact ⟨_, b, o, List.getElem?_eq_getElem hk, e, hb, hc⟩
theorem own_sets {w : World} {base : Nat} {v : Value} {l : List Nat} (h : w.ownsRow base 98 1 v l.length (u64s l)) : ∃ A c, v = .slice A l.length c ∧ UL base w A l ∧ c ≤ maxLen ∧ l.length ≤ c := by
  rcases h.2 with ⟨rfl, h0⟩ | ⟨g, cap, cur, rfl, hg, hh, hnc, hcm, hcs, hx⟩
  · have hl : l = [] := List.eq_nil_of_length_eq_zero h0
    subst hl
    exact ⟨none, 0, rfl, fun k n hk => by simp at hk, by unfold maxLen; omega, Nat.le_refl _⟩
  · refine ⟨_, cap, rfl, fun k n hk => ⟨g, 0, rfl, hg, ?_, ?_⟩, hcm, hnc⟩
    · rcases Nat.lt_or_ge g w.heap.size with h1 | h1
      · exact h1
      · rw [Array.getElem?_eq_none h1] at hh; cases hh
    · rw [cell_of_row _ _ _ _ _ _ hh, Nat.zero_add]
      have hk2 : k < l.length := by
        rcases Nat.lt_or_ge k l.length with h1 | h1
        · exact h1
        · rw [List.getElem?_eq_none h1] at hk; cases hk
      have e1 : (cur.toList.take (l.length * 1))[k]? = cur.toList[k]? := List.getElem?_take_of_lt (by omega)
      have e : cur.toList[k]? = some (.int .u64 (n : Nat)) := by
        rw [← e1, hx]
        unfold u64s
        rw [List.getElem?_map, hk]
        rfl
      simpa using e
theorem u64s_snoc (l : List Nat) (n : Nat) : u64s (l ++ [n]) = u64s l ++ [.int .u64 (n : Nat)] := by unfold u64s; simp
theorem comp_split {es : List (Nat × Nat)} {n : Nat} {out : List Nat} (h : compM es n = some out) : ∃ s, allM (adj es) (List.range n) st0 = some s ∧ (∀ c ∈ s.found, c < 18446744073709551616) ∧ s.found.length < 1000 ∧ out = ordM n s.found := by
  unfold compM at h
  cases h1 : allM (adj es) (List.range n) st0 with
  | none => rw [h1] at h; cases h
  | some s =>
    rw [h1, Option.bind_some] at h
    by_cases h2 : (s.found.all (fun c => decide (c < 18446744073709551616)) && decide (s.found.length < 1000)) = true
    · rw [if_pos h2] at h
      injection h with h
      rw [Bool.and_eq_true, List.all_eq_true, decide_eq_true_eq] at h2
      exact ⟨s, rfl, fun c hc => by simpa using h2.1 c hc, h2.2, h.symm⟩
    · rw [if_neg h2] at h; cases h
theorem all_step {L : Nat → Nat} {k n : Nat} {l : List Nat} {s t : St} (hk : l[k]? = some n) (h : allM L (l.drop k) s = some t) :
    ∃ t1, (if s.low.getD n 0 = 0 then visitM L 65 n s else some s) = some t1 ∧ allM L (l.drop (k + 1)) t1 = some t := by
  have hlt : k < l.length := by
    rcases Nat.lt_or_ge k l.length with h1 | h1
    · exact h1
    · rw [List.getElem?_eq_none h1] at hk; cases hk
  rw [List.drop_eq_getElem_cons hlt, allM] at h
  rw [List.getElem?_eq_getElem hlt] at hk
  injection hk with hk
  rw [hk] at h
  cases h1 : (if s.low.getD n 0 = 0 then visitM L 65 n s else some s) with
  | none => rw [h1] at h; cases h
  | some t1 => rw [h1] at h; exact ⟨t1, rfl, h⟩
theorem zero_search (q : Nat) : Tryd.zeroCells135.toList.set 0 (.pointer (some ⟨q, 0, none⟩)) = scells q st0 (.slice none 0 0) (.slice none 0 0) := by rfl
theorem zero_size : Tryd.zeroCells135.size = 69 := by rfl
theorem info_search : (Tryd.prog.info? 135).map (·.size) = some 69 := by kernel_rfl
theorem store_search (q : Nat) (w : World) : (storeCells ⟨w.heap.size, 0, none⟩ (Tryd.zeroCells135.toList.set 0 (.pointer (some ⟨q, 0, none⟩)))).run Tryd.prog (w.alloc (.cells Tryd.zeroCells135 135)) = .ok () (w.alloc (.cells (scells q st0 (.slice none 0 0) (.slice none 0 0)).toArray 135)) := by
  rw [zero_search]
  exact run_storeCells_new (P := Tryd.prog) w 135 Tryd.zeroCells135 (scells q st0 (.slice none 0 0) (.slice none 0 0)).toArray (by rw [info_search]; rfl) (by rw [zero_size]; rfl) (by simp [scells, st0, Value.oneCell', List.replicate])
theorem search_start {C q : Nat} {L : Nat → Nat} {w : World} (hq : Cells w q (sets L)) (hC : C ≤ w.heap.size) : Srch C (w.alloc (.cells (scells q st0 (.slice none 0 0) (.slice none 0 0)).toArray 135)) w.heap.size q L st0 (.slice none 0 0) (.slice none 0 0) :=
  ⟨by simpa using Cells.new w (scells q st0 (.slice none 0 0) (.slice none 0 0)).toArray 135, by simp [st0], by decide, World.ownsRow_nil _ _ _ _, World.ownsRow_nil _ _ _ _, hq.keep ((Below.refl _ _).alloc (Nat.le_refl _) _), hC, by have := hq.lt; omega, fun b h => by simp [Value.ownBlock] at h, fun b h => by simp [Value.ownBlock] at h⟩
theorem ordM_succ (j : Nat) (l : List Nat) : ordM (j + 1) l = ordM j l ++ l.filter fun c => Lib.ctz 64 c == j := by
  unfold ordM; rw [List.range_succ, List.flatMap_append]; simp
theorem ordM_len (j : Nat) (l : List Nat) : (ordM j l).length ≤ j * l.length := by
  induction j with
  | zero => simp [ordM]
  | succ j ih =>
    rw [ordM_succ, List.length_append, Nat.succ_mul]
    have := List.length_filter_le (fun c => Lib.ctz 64 c == j) l
    omega
theorem ord_up {j x r : Nat} {o fo : List Nat} (hx : fo[r]? = some x) (hz : (Lib.ctz 64 x == j) = true) : o ++ (fo.take (r + 1)).filter (fun c => Lib.ctz 64 c == j) = (o ++ (fo.take r).filter fun c => Lib.ctz 64 c == j) ++ [x] := by
  rw [List.take_add_one, hx, List.filter_append, List.append_assoc]
  simp [hz]
theorem ord_stay {j x r : Nat} {o fo : List Nat} (hx : fo[r]? = some x) (hz : (Lib.ctz 64 x == j) = false) : o ++ (fo.take (r + 1)).filter (fun c => Lib.ctz 64 c == j) = o ++ (fo.take r).filter fun c => Lib.ctz 64 c == j := by
  rw [List.take_add_one, hx, List.filter_append]
  simp [hz]
theorem own_up {w : World} {B x : Nat} {v : Value} {l l' : List Nat} (h : l' = l ++ [x]) (hown : w.ownsRow B 98 1 v (l.length + 1) (u64s l ++ [.int .u64 (x : Nat)])) : w.ownsRow B 98 1 v l'.length (u64s l') := by
  rw [h, u64s_snoc, List.length_append]; exact hown
theorem ord_done {w : World} {B j r : Nat} {v : Value} {fo : List Nat} (hr : fo.length ≤ r) (h : w.ownsRow B 98 1 v (ordM j fo ++ (fo.take r).filter fun c => Lib.ctz 64 c == j).length (u64s (ordM j fo ++ (fo.take r).filter fun c => Lib.ctz 64 c == j))) : w.ownsRow B 98 1 v (ordM (j + 1) fo).length (u64s (ordM (j + 1) fo)) := by
  rw [List.take_of_length_le hr] at h
  rw [ordM_succ]
  exact h
theorem own_down {w : World} {B C : Nat} {e : TypeId} {v : Value} {n : Nat} {xs : List Value} (h : w.ownsRow B e 1 v n xs) (hC : C ≤ B) : w.ownsRow C e 1 v n xs :=
  ⟨h.1, h.2.imp id fun ⟨g, cap, cur, e, hg, r⟩ => ⟨g, cap, cur, e, Nat.le_trans hC hg, r⟩⟩
/-- The graph's own block, which no search writes. -/
def Boxed (C p n : Nat) (vW vF : Value) (w : World) : Prop := C < w.heap.size ∧ C ≠ p ∧ vW.ownBlock ≠ some C ∧ vF.ownBlock ≠ some C ∧ w.cell? ⟨C, 0, none⟩ = some (.int .i64 (n : Nat))
theorem Boxed.kept {C p n : Nat} {a b a1 b1 : Value} {w w' : World} (h : Boxed C p n a b w) (k : Kept w w' p a b a1 b1) : Boxed C p n a1 b1 w' := by
  obtain ⟨h1, h2, h3, h4, h5⟩ := h
  refine ⟨Nat.lt_of_lt_of_le h1 k.size, h2, fun e => ?_, fun e => ?_, (World.cell?_of_block (a := ⟨C, 0, none⟩) (k.block C h1 h2 h3 h4)).trans h5⟩
  · rcases k.newW C e with e | e
    · exact h3 e
    · omega
  · rcases k.newF C e with e | e
    · exact h4 e
    · omega
def AllInv (C p q : Nat) (L : Nat → Nat) (n : Nat) (t : St) (w : World) (i : Value) (wr : World) : Prop :=
  ∃ (k : Nat) (s : St) (vW vF : Value), i = .int .i64 (k : Nat) ∧ k ≤ n ∧ allM L ((List.range n).drop k) s = some t ∧ Srch C wr p q L s vW vF ∧ Below C w wr ∧ Boxed C p n vW vF wr
set_option maxRecDepth 100000 in
set_option maxHeartbeats 8000000 in
theorem components_any (n : Nat) (A : Option Addr) (m c : Nat) (es : List (Nat × Nat)) (out : List Nat) (w : World) (h : EL w A m (cast es)) (hl : Low 64 es) (hm : m ≤ 4096) (hn : n ≤ 64) (hout : compM es n = some out) (hw : Good w) :
    Calls Tryd.prog 83 #[gV n A m c] w fun e w' => ∃ v, e = .returned v ∧ w'.ownsRow w.heap.size 98 1 v out.length (u64s out) ∧ Below w.heap.size w w' := by
  obtain ⟨j0, hj0, jz0, jz1, jz2⟩ := info_parts info_set
  obtain ⟨s, hall, hlt64, hfl, rfl⟩ := comp_split hout
  have kv := (Below.refl w.heap.size w).alloc (Nat.le_refl _) (.cells #[.int .i64 (n : Nat), .slice A m c] 26)
  have HN := Lib.hid (next_any n A m c es (w.alloc (.cells #[.int .i64 (n : Nat), .slice A m c] 26)) (h.keep kv) hl hm)
  have Hall := Lib.hid hall
  have Hlt := Lib.hid hlt64
  have HL := Lib.hid hl
  have HW := Lib.hid (fun w' (h : Below w.heap.size w w') => hw.below h hw.size)
  have kv := Lib.hid kv
  obtain ⟨fo, hfo⟩ : ∃ fo, s.found = fo := ⟨_, rfl⟩
  have Hfo := Lib.hid hfo
  rw [hfo] at Hlt hfl ⊢
  clear h hl hout hw hall hlt64 hfo
  go_enter Tryd.func83, Tryd.ntmps83
  go_wp2_with fail
  refine HN.out.mono ?_
  rintro e w1 ⟨q, rfl, hq, hqs, hb1⟩
  have hst := store_search q w1
  have hqs' : w.heap.size ≤ q := by have : (w.alloc (.cells #[.int .i64 (n : Nat), .slice A m c] 26)).heap.size = w.heap.size + 1 := by simp
                                    omega
  have B1 := Lib.hid ((kv.out.trans (hb1.mono (by simp))).alloc (by have := kv.out.size; have := hb1.size; simp at *; omega) (.cells (scells q st0 (.slice none 0 0) (.slice none 0 0)).toArray 135))
  have hsz : w.heap.size ≤ w1.heap.size := by have := hb1.size; simp at this; omega
  have g0 : (w1.alloc (.cells (scells q st0 (.slice none 0 0) (.slice none 0 0)).toArray 135)).cell? ⟨w.heap.size, 0, none⟩ = some (.int .i64 (n : Nat)) := by
    rw [World.cell?_alloc_lt _ _ _ (show w.heap.size < w1.heap.size by have := hb1.size; simp at this; omega), hb1.cell (p := ⟨w.heap.size, 0, none⟩) (by simp)]
    simp [go_sem]
  have S0 := search_start (C := w.heap.size) hq hsz
  obtain ⟨w2, hw2⟩ : ∃ u, w1.alloc (.cells (scells q st0 (.slice none 0 0) (.slice none 0 0)).toArray 135) = u := ⟨_, rfl⟩
  obtain ⟨p, hp⟩ : ∃ p, w1.heap.size = p := ⟨_, rfl⟩
  rw [hw2] at hst B1 g0 S0
  rw [hp] at S0 hst
  have S0 := Lib.hid S0
  have X0 := Lib.hid (show Boxed w.heap.size p n (.slice none 0 0) (.slice none 0 0) w2 from ⟨size_of_cell g0, by rw [← hp]; have := hb1.size; simp at this; omega, by simp [Value.ownBlock], by simp [Value.ownBlock], g0⟩)
  clear hq hqs hb1 hqs'
  go_wp2_with fail
  go_loopw [14] (fun i wr => AllInv w.heap.size p q (adj es) n s w i wr) (fun i _ => n - (intOf i).toNat)
  case atStart => exact ⟨0, _, _, _, rfl, Nat.zero_le _, Hall.out, S0.out, B1.out, X0.out⟩
  case round =>
    obtain ⟨k, sk, vW, vF, rfl, hk, hg, hsk, hbk, hbox⟩ := hrel
    have Sk := Lib.hid hsk
    have Bk := Lib.hid hbk
    have Hg := Lib.hid hg
    have Hbox := Lib.hid hbox
    clear hsk hbk hg hbox
    by_cases hlt : k < n
    · have hkn : (List.range n)[k]? = some k := by simp [hlt]
      obtain ⟨t1, hr1, hg1⟩ := all_step hkn Hg.out
      have Hlt := Lib.hid hlt
      have Hg1 := Lib.hid hg1
      have c1 := Sk.out.at_low' (show k < 64 by omega)
      have hki : (k : Int) < 64 := by omega
      obtain ⟨x0, hx0⟩ : ∃ x0, sk.low.getD k 0 = x0 := ⟨_, rfl⟩
      rw [hx0] at c1 hr1
      have Hr1 := Lib.hid hr1
      clear hx0 hg1 hkn hr1
      by_cases h0 : x0 = 0
      · subst h0
        rw [if_pos rfl] at Hr1
        have HV := Lib.hid (visit_any (adj es) (fun i => adj_under HL.out i) w.heap.size p q (HW.out w (Below.refl _ _)).size 65 k sk t1 wr vW vF Hr1.out Sk.out Bk.out.size (HW.out _ Bk.out))
        go_wp2_with fail
        refine HV.out.mono ?_
        rintro e w3 ⟨rfl, vW3, vF3, hs3, hb3, hk3⟩
        have S3 := Lib.hid hs3
        have B3 := Lib.hid (Bk.out.trans hb3)
        have X3 := Lib.hid (Hbox.out.kept hk3)
        clear hs3 hb3 hk3
        go_wp2_with fail
        go_roundw
        case rel => exact ⟨k + 1, _, _, _, by go_num, Hlt.out, Hg1.out, S3.out, B3.out, X3.out⟩
        case measure => simp [intOf]; have := Hlt.out; omega
      · rw [if_neg h0] at Hr1
        have e1 : t1 = sk := (Option.some.inj Hr1.out).symm
        have t0 : (x0 == 0) = false := by simp [h0]
        clear h0 Hr1
        subst e1
        go_wp2_with fail
        go_roundw
        case rel => exact ⟨k + 1, _, _, _, by go_num, Hlt.out, Hg1.out, Sk.out, Bk.out, Hbox.out⟩
        case measure => simp [intOf]; have := Hlt.out; omega
    · obtain rfl : k = n := by omega
      obtain ⟨wa, rfl⟩ : ∃ wa : World, wa = wr := ⟨_, rfl⟩
      have hg : allM (adj es) [] sk = some s := by have := Hg.out; rwa [List.drop_eq_nil_of_le (by simp)] at this
      rw [allM] at hg
      injection hg with hg
      subst hg
      obtain ⟨A0, c0, hvF, hU, hc0, hl0⟩ := own_sets Sk.out.found
      have h68 := Sk.out.at_found
      have g1 : wa.cell? ⟨w.heap.size, 0, none⟩ = some (.int .i64 (k : Nat)) := Hbox.out.2.2.2.2
      rw [hvF] at h68
      have HU := Lib.hid hU
      have H68 := Lib.hid (fun w' (h : Below wa.heap.size wa w') => (Sk.out.keep h).at_found)
      rw [hvF] at H68
      rw [Hfo.out] at h68 HU H68
      clear hvF hU hl0 Hg
      go_wp2_with (at_make; refine wpList_make_own _ rfl _ _ 103 rfl wa.heap.size 98 j0 (.int .u64 0) 1 Tryd.underlying103 hj0 jz0 jz1 .i64 .i64 (fo.length : Int) fo.length rfl rfl rfl (by rw [jz2]; omega) (by unfold maxLen; omega) (Nat.le_refl _) ?_)
      intro w3 hown hgr
      have O3 := Lib.hid hown
      have B3 := Lib.hid ((Below.refl wa.heap.size wa).grown hgr (Nat.le_refl _) (by simp))
      have hwr := Bk.out.size
      have g3 : w3.cell? ⟨w.heap.size, 0, none⟩ = some (.int .i64 (k : Nat)) := (B3.out.cell (p := ⟨w.heap.size, 0, none⟩) Hbox.out.1).trans g1
      clear hown hgr
      go_wp2_with fail
      go_loopw [31, 5] (fun i v wx => ∃ j : Nat, i = .int .i64 (j : Nat) ∧ j ≤ k ∧ wx.ownsRow wa.heap.size 98 1 v (ordM j fo).length (u64s (ordM j fo)) ∧ Below wa.heap.size wa wx) (fun i _ _ => k - (intOf i).toNat)
      case atStart => exact ⟨0, rfl, Nat.zero_le _, O3.out, B3.out⟩
      case round =>
        obtain ⟨j, rfl, hj, hown, hbx⟩ := hrel
        have Ox := Lib.hid hown
        have Bx2 := Lib.hid hbx
        have x68 := H68.out _ hbx
        have hol := ordM_len j fo
        clear hown hbx
        by_cases hlt : j < k
        · have Hlj := Lib.hid hlt
          go_wp2_with fail
          obtain ⟨wb, rfl⟩ : ∃ wb : World, wb = wr := ⟨_, rfl⟩
          go_loopw [37, 5] (fun i v wy => ∃ r : Nat, i = .int .i64 (r : Nat) ∧ r ≤ fo.length ∧ wy.ownsRow wa.heap.size 98 1 v (ordM j fo ++ (fo.take r).filter fun c => Lib.ctz 64 c == j).length (u64s (ordM j fo ++ (fo.take r).filter fun c => Lib.ctz 64 c == j)) ∧ Below wa.heap.size wa wy) (fun i _ _ => fo.length - (intOf i).toNat)
          case atStart => exact ⟨0, rfl, Nat.zero_le _, by simpa using Ox.out, Bx2.out⟩
          case round =>
            obtain ⟨r, rfl, hr, hown, hby⟩ := hrel
            have Oy := Lib.hid hown
            have By := Lib.hid hby
            have hsy := hby.size
            have hyl : (ordM j fo ++ (fo.take r).filter fun c => Lib.ctz 64 c == j).length ≤ 100000 := by
              rw [List.length_append]
              have h1 := List.length_filter_le (fun c => Lib.ctz 64 c == j) (fo.take r)
              rw [List.length_take] at h1
              have h2 : j * fo.length ≤ 64 * 1000 := Nat.mul_le_mul (by omega) (by omega)
              omega
            clear hown hby
            by_cases hlr : r < fo.length
            · obtain ⟨x, b, o, hx, rfl, _, hbl, hcell⟩ := (HU.out.keep By.out).at_ hlr
              have hx64 := Hlt.out x (List.mem_of_getElem? hx)
              have Hr := Lib.hid hlr
              have HT := Lib.hid (fun w hw => tz_any x hx64 w hw)
              by_cases hz : Lib.ctz 64 x = j
              · have tz : (((Lib.ctz 64 x : Nat) : Int) == (j : Nat)) = true := by rw [hz]; simp
                have Hup := Lib.hid (ord_up (j := j) (o := ordM j fo) hx (by simpa using hz))
                obtain ⟨ll, hll⟩ : ∃ ll, (ordM j fo ++ (fo.take r).filter fun c => Lib.ctz 64 c == j) = ll := ⟨_, rfl⟩
                rw [hll] at Oy hyl Hup
                clear hll
                obtain ⟨z, hz0⟩ : ∃ z, Lib.ctz 64 x = z := ⟨_, rfl⟩
                rw [hz0] at tz HT
                clear hx hz hz0
                go_wp2_with fail
                refine (HT.out _ (HW.out _ (Bk.out.trans (By.out.mono hwr)))).mono ?_
                rintro e w5 ⟨rfl, rfl⟩
                go_wp2_with (at_builtin; refine wpList_append_own _ rfl _ _ 103 rfl wa.heap.size 98 j0 (.int .u64 0) 1 8 Tryd.underlying103 hj0 jz0 jz1 jz2 rfl (by decide) _ _ _ rfl (Oy.out.alloc _) ⟨wr.heap.size, 0, none⟩ 1 1 [.int .u64 (x : Nat)] rfl rfl ?c1 ?c2 ?c3 ?c4 ?c5 ?_)
                case c1 =>
                  intro k u hu
                  match k, hu with
                  | 0, hu => simp at hu; subst hu; simp [Addr.add]
                case c2 => intro u hu; simp at hu; subst hu; rfl
                case c3 => unfold maxLen; omega
                case c4 => omega
                case c5 => simp; omega
                intro v' w6 hown' hgrow _
                have O6 := Lib.hid (own_up Hup.out hown')
                have B6 := Lib.hid ((By.out.alloc hsy _).grown hgrow (by simp; omega) (fun k hk => own_ge Oy.out hk))
                clear hown' hgrow
                go_wp2_with fail
                go_roundw
                case rel => exact ⟨r + 1, by go_num, Hr.out, O6.out, B6.out⟩
                case measure => simp [intOf]; have := Hr.out; omega
              · have tz : (((Lib.ctz 64 x : Nat) : Int) == (j : Nat)) = false := by simp; omega
                have Hup := Lib.hid (ord_stay (j := j) (o := ordM j fo) hx (by simpa using hz))
                obtain ⟨ll, hll⟩ : ∃ ll, (ordM j fo ++ (fo.take r).filter fun c => Lib.ctz 64 c == j) = ll := ⟨_, rfl⟩
                rw [hll] at Oy hyl Hup
                clear hll
                obtain ⟨z, hz0⟩ : ∃ z, Lib.ctz 64 x = z := ⟨_, rfl⟩
                rw [hz0] at tz HT
                clear hx hz hz0
                go_wp2_with fail
                refine (HT.out _ (HW.out _ (Bk.out.trans (By.out.mono hwr)))).mono ?_
                rintro e w5 ⟨rfl, rfl⟩
                go_wp2_with fail
                go_roundw
                case rel => exact ⟨r + 1, by go_num, Hr.out, by rw [Hup.out]; exact Oy.out, By.out⟩
                case measure => simp [intOf]; have := Hr.out; omega
            · have Of := Lib.hid (ord_done (j := j) (fo := fo) (by omega) Oy.out)
              go_wp2_with fail
              go_roundw
              case rel => exact ⟨j + 1, by go_num, Hlj.out, Of.out, By.out⟩
              case measure => simp [intOf]; have := Hlj.out; omega
        · obtain rfl : j = k := by omega
          have Of := Lib.hid (own_down Ox.out hwr)
          have Bf := Lib.hid (Bk.out.trans (Bx2.out.mono hwr))
          go_wp2_with fail
          go_ret
          exact ⟨_, rfl, Of.out, Bf.out⟩
end Go.Proofs.YthocdmlacfejkaaDoor
