/- Lists of rationals in memory: Parses, Reads, Numbers. -/
import Derived.Test.YtjcblcikipmojaaGreatDoorLists
namespace Go.Proofs.YtjcblcikipmojaaGreatDoor
open Go.RowKit

abbrev R4 := Int × Option Addr × Int × Option Addr
def cells4 (r : R4) : List Value := [.int .i64 r.1, .pointer r.2.1, .int .i64 r.2.2.1, .pointer r.2.2.2]
def flat : List R4 → List Value
  | [] => []
  | r :: rs => cells4 r ++ flat rs
theorem flat_get : ∀ (rs : List R4) (k j : Nat) (r : R4), rs[k]? = some r → j < 4 → (flat rs)[4 * k + j]? = (cells4 r)[j]?
  | [], k, j, r, h, _ => by simp at h
  | x :: rs, 0, j, r, h, hj => by
    obtain rfl : x = r := by simpa using h
    show (cells4 x ++ flat rs)[4 * 0 + j]? = _
    rw [List.getElem?_append_left (by show 4 * 0 + j < 4; omega)]
    congr 1
    omega
  | x :: rs, k + 1, j, r, h, hj => by
    show (cells4 x ++ flat rs)[4 * (k + 1) + j]? = _
    rw [List.getElem?_append_right (by show 4 ≤ _; omega), ← flat_get rs k j r (by simpa using h) hj]
    congr 1
    show 4 * (k + 1) + j - 4 = 4 * k + j
    omega
theorem flat_len : ∀ rs : List R4, (flat rs).length = 4 * rs.length
  | [] => rfl
  | x :: rs => by
    show (cells4 x ++ flat rs).length = _
    rw [List.length_append, flat_len rs, List.length_cons]
    show 4 + _ = _
    omega
theorem flat_plain : ∀ rs : List R4, (flat rs).all plainV = true
  | [] => rfl
  | x :: rs => by
    show (cells4 x ++ flat rs).all plainV = true
    rw [List.all_append, flat_plain rs]
    rfl
theorem flat_set : ∀ (rs : List R4) (k : Nat) (r : R4), k < rs.length → ((((flat rs).set (4 * k) (.int .i64 r.1)).set (4 * k + 1) (.pointer r.2.1)).set (4 * k + 2) (.int .i64 r.2.2.1)).set (4 * k + 3) (.pointer r.2.2.2) = flat (rs.set k r)
  | [], _, _, h => absurd h (Nat.not_lt_zero _)
  | x :: rs, 0, r, _ => rfl
  | x :: rs, k + 1, r, h => by
    have ih := flat_set rs k r (Nat.lt_of_succ_lt_succ h)
    have e : ∀ (j : Nat) (L : List Value) (v : Value), (cells4 x ++ L).set (4 * (k + 1) + j) v = cells4 x ++ L.set (4 * k + j) v := fun j L v => by
      rw [List.set_append_right _ _ (by show 4 ≤ _; omega)]
      congr 2
      show 4 * (k + 1) + j - 4 = 4 * k + j
      omega
    show ((((cells4 x ++ flat rs).set (4 * (k + 1) + 0) _).set _ _).set _ _).set _ _ = cells4 x ++ flat (rs.set k r)
    rw [e, e, e, e]
    exact congrArg _ ih
def put4at (w : World) (g k : Nat) (x y z u : Value) : World := (((w.setCell ⟨g, k * 4, none⟩ x).setCell ⟨g, k * 4 + 1, none⟩ y).setCell ⟨g, k * 4 + 2, none⟩ z).setCell ⟨g, k * 4 + 3, none⟩ u
theorem Cells.put4at {w : World} {g k : Nat} {rs : List R4} (h : Cells w g (flat rs)) (hk : k < rs.length) (r : R4) : Cells (put4at w g k (.int .i64 r.1) (.pointer r.2.1) (.int .i64 r.2.2.1) (.pointer r.2.2.2)) g (flat (rs.set k r)) := by
  have hl := flat_len rs
  rw [← flat_set rs k r hk, Nat.mul_comm 4 k]
  exact (((h.set (k * 4) _ (by omega)).set (k * 4 + 1) _ (by simp; omega)).set (k * 4 + 2) _ (by simp; omega)).set (k * 4 + 3) _ (by simp; omega)
theorem put4at_heap (w : World) (g k : Nat) (x y z u : Value) : (put4at w g k x y z u).heap.size = w.heap.size ∧ ∀ i, i ≠ g → (put4at w g k x y z u).heap[i]? = w.heap[i]? :=
  ⟨by simp [put4at, World.setCell], fun i hi => (Below.heap_setCell _ ⟨g, k * 4 + 3, none⟩ u i hi).trans ((Below.heap_setCell _ ⟨g, k * 4 + 2, none⟩ z i hi).trans ((Below.heap_setCell _ ⟨g, k * 4 + 1, none⟩ y i hi).trans (Below.heap_setCell w ⟨g, k * 4, none⟩ x i hi)))⟩
theorem below_put4at {w0 w : World} {g : Nat} (h : Below w0.heap.size w0 w) (hg : w0.heap.size ≤ g) (k : Nat) (x y z u : Value) : Below w0.heap.size w0 (put4at w g k x y z u) :=
  (((h.setCell (p := ⟨g, k * 4, none⟩) hg x).setCell (p := ⟨g, k * 4 + 1, none⟩) hg y).setCell (p := ⟨g, k * 4 + 2, none⟩) hg z).setCell (p := ⟨g, k * 4 + 3, none⟩) hg u
/-- The rational that four cells hold has this text. -/
def RatT (w : World) (r : R4) (s : ByteArray) : Prop := ∃ q : Rat, RatV w r.1 r.2.1 r.2.2.1 r.2.2.2 q ∧ ratTxt q = s ∧ q.num.natAbs < ten 3000 ∧ q.den < ten 3000
/-- A slice of rationals with these texts. -/
def RL (w : World) (A : Option Addr) (n : Nat) (l : List ByteArray) : Prop :=
  l.length = n ∧ ∃ (g : Nat) (rs : List R4), A = some ⟨g, 0, none⟩ ∧ rs.length = n ∧ Cells w g (flat rs) ∧ ∀ (k : Nat) (r : R4) (s : ByteArray), rs[k]? = some r → l[k]? = some s → RatT w r s
theorem RatT.keep {w w' : World} {r : R4} {s : ByteArray} (h : RatT w r s) (hb : Below w.heap.size w w') : RatT w' r s := let ⟨q, h1, h2⟩ := h; ⟨q, h1.keep hb, h2⟩
theorem RatT.wrote {w w' : World} {r : R4} {s : ByteArray} {g : Nat} {rs : List R4} (h : RatT w r s) (hc : Cells w g (flat rs)) (hs : w'.heap.size = w.heap.size) (hk : ∀ k, k ≠ g → w'.heap[k]? = w.heap[k]?) : RatT w' r s :=
  let ⟨q, h1, h2⟩ := h; ⟨q, h1.wrote hc (flat_plain rs) hs hk, h2⟩
theorem RL.keep {w w' : World} {A : Option Addr} {n : Nat} {l : List ByteArray} (h : RL w A n l) (hb : Below w.heap.size w w') : RL w' A n l :=
  let ⟨h1, g, rs, h2, h3, h4, h5⟩ := h; ⟨h1, g, rs, h2, h3, h4.keep hb, fun k r s hr hs => (h5 k r s hr hs).keep hb⟩
theorem ratT_up {w w' : World} {l : List ByteArray} {rs : List R4} {k : Nat} {s0 : ByteArray} {r0 : R4} (hs : l[k]? = some s0) (hr : RatT w r0 s0) (h : ∀ (i : Nat) (r : R4) (s : ByteArray), i < k → rs[i]? = some r → l[i]? = some s → RatT w r s) (hw : ∀ r s, RatT w r s → RatT w' r s) :
    ∀ (i : Nat) (r : R4) (s : ByteArray), i < k + 1 → (rs.set k r0)[i]? = some r → l[i]? = some s → RatT w' r s := by
  intro i r s hi h1 h2
  apply hw
  by_cases e : i = k
  · subst e
    obtain rfl : s0 = s := by rw [hs] at h2; injection h2
    rw [List.getElem?_set_self'] at h1
    cases h3 : rs[i]? with
    | none => rw [h3] at h1; cases h1
    | some x =>
      rw [h3] at h1
      injection h1 with h1
      rw [← h1]
      exact hr
  · rw [List.getElem?_set_ne (fun h => e h.symm)] at h1
    exact h i r s (by omega) h1 h2
/-- The first error of a list. -/
def errL (l : List ByteArray) : Int := l.foldl (fun e s => if e = 0 then errR s else e) 0
theorem errL_up {l : List ByteArray} {k : Nat} {s : ByteArray} (h : l[k]? = some s) : errL (l.take (k + 1)) = if errL (l.take k) = 0 then errR s else errL (l.take k) := by
  rw [List.take_add_one, h]
  unfold errL
  rw [List.foldl_append]
  rfl
theorem errL_stay : ∀ (l : List ByteArray) (e : Int), e ≠ 0 → l.foldl (fun e s => if e = 0 then errR s else e) e = e
  | [], _, _ => rfl
  | s :: l, e, h => by
    rw [List.foldl_cons, if_neg h]
    exact errL_stay l e h
theorem errL_stop {l : List ByteArray} {m : Nat} (h : errL (l.take m) ≠ 0) : errL l = errL (l.take m) := by
  have e : errL (l.take m ++ l.drop m) = errL (l.take m) := by
    unfold errL
    rw [List.foldl_append]
    exact errL_stay _ _ h
  rwa [List.take_append_drop] at e
theorem info_rat : (Tryz.prog.info? 27).map (fun i => (i.zero, i.size, i.bytes)) = some (some (.agg #[.int .i64 0, .pointer none, .int .i64 0, .pointer none]), 4, 32) := by kernel_rfl
theorem made_rats {w w1 : World} {n : Nat} (hown : w1.ownsRow w.heap.size 27 4 (.slice (some ⟨w.heap.size, 0, none⟩) n n) n (madeCells (Value.agg #[.int .i64 0, .pointer none, .int .i64 0, .pointer none]).cells (n * 4)).toList) : Cells w1 w.heap.size (flat (List.replicate n (0, none, 0, none))) := by
  rcases hown.2 with ⟨h1, _⟩ | ⟨g', cap, cur, h1, hg, hh, hnc, hcm, hcs, hx⟩
  · cases h1
  · injection h1 with h1 _ h3
    injection h1 with h1
    injection h1 with h1
    subst h1 h3
    rw [List.take_of_length_le (by rw [Array.length_toList, hcs]; exact Nat.le_refl _)] at hx
    have e : cur.toList = flat (List.replicate n (0, none, 0, none)) := by
      rw [hx]
      apply List.ext_getElem?
      intro i
      by_cases hi : i < n * 4
      · have h2 := flat_get (List.replicate n ((0, none, 0, none) : R4)) (i / 4) (i % 4) (0, none, 0, none) (by rw [List.getElem?_replicate, if_pos (by omega)]) (Nat.mod_lt _ (by decide))
        rw [Nat.div_add_mod] at h2
        rw [h2]
        have h3 : i % 4 < 4 := Nat.mod_lt _ (by decide)
        simp [madeCells, Value.cells, hi, cells4]
        rcases (by omega : i % 4 = 0 ∨ i % 4 = 1 ∨ i % 4 = 2 ∨ i % 4 = 3) with h | h | h | h <;> simp [h]
      · rw [List.getElem?_eq_none (by simp [madeCells]; omega), List.getElem?_eq_none (by rw [flat_len, List.length_replicate]; omega)]
    rw [← e]
    exact Cells.of_row hh
def ParsesPost (l : List ByteArray) (n : Nat) (w : World) (e : Ending) (w' : World) : Prop :=
  (∃ v, e = .returned (.tuple #[v, .int .i64 (errL l)]) ∧ (errL l ≠ 0 → v = .slice none 0 0) ∧ (errL l = 0 → ∃ B, v = .slice B n n ∧ RL w' B n l)) ∧ Below w.heap.size w w'
set_option maxRecDepth 100000 in
set_option maxHeartbeats 4000000 in
theorem parsesP_any (A : Option Addr) (n c : Nat) (l : List ByteArray) (w : World) (h : SL w A n l) (hn : n ≤ 8) (hs : ∀ s ∈ l, s.size ≤ 40) (hg : Good w) :
    Calls Tryz.prog 72 #[.slice A n c, .func (.func 14) #[] #[]] w (ParsesPost l n w) := by
  obtain ⟨i0, hi, hz0, hz1, hz2⟩ := info_parts info_rat
  have H := Lib.hid h
  have Hs := Lib.hid hs
  have Hg := Lib.hid (fun w' (hb : Below w.heap.size w w') => hg.below hb)
  clear h hs hg
  go_enter Tryz.func72, Tryz.ntmps72
  go_wp2_with (at_make; refine wpList_make_full _ rfl _ _ 41 rfl w.heap.size 27 i0 (.agg #[.int .i64 0, .pointer none, .int .i64 0, .pointer none]) 4 Tryz.underlying41 hi hz0 hz1 _ _ _ _ n rfl rfl rfl rfl (by rw [hz2]; omega) (by unfold maxLen; omega) (Nat.le_refl _) ?_)
  intro w1 hown hgr
  have Hc := Lib.hid (made_rats hown)
  have Hb1 := Lib.hid ((Below.refl w.heap.size w).grown hgr (Nat.le_refl _) (by simp))
  clear hown hgr
  go_wp2_with fail
  go_loopw [16] (fun v wr => ∃ k : Nat, k ≤ n ∧ v = .int .i64 (k : Nat) ∧ errL (l.take k) = 0 ∧ (∃ rs : List R4, rs.length = n ∧ Cells wr w.heap.size (flat rs) ∧ ∀ (i : Nat) (r : R4) (s : ByteArray), i < k → rs[i]? = some r → l[i]? = some s → RatT wr r s) ∧ Below w.heap.size w wr) (fun v _ => n - (intOf v).toNat)
  case atStart => exact ⟨0, Nat.zero_le _, rfl, rfl, ⟨_, List.length_replicate .., Hc.out, fun i r s h => absurd h (Nat.not_lt_zero _)⟩, Hb1.out⟩
  case round =>
    obtain ⟨k, hk, rfl, he, ⟨rs, hrl, hcs, hrs⟩, hb⟩ := hrel
    have He := Lib.hid he
    have Hcs := Lib.hid hcs
    have Hrs := Lib.hid hrs
    have Hb := Lib.hid hb
    clear he hcs hrs hb
    by_cases hlt : k < n
    · obtain ⟨s, b, o, hsk, rfl, _, hc⟩ := (H.out.keep Hb.out).at_ hlt
      have Hsk := Lib.hid hsk
      have HP := Lib.hid (fun w hg => rpE_any s w (by have := Hs.out s (List.mem_of_getElem? hsk); omega) hg)
      clear hsk
      go_wp2_with fail
      refine (HP.out _ (Hg.out _ Hb.out)).mono ?_
      rintro e w2 ⟨a, P, b, Q, E, rfl, hv, h2⟩
      have Hup := Lib.hid (errL_up Hsk.out)
      rw [if_pos He.out] at Hup
      have hE := hv.1
      have K2 := Lib.hid (below_on Hb.out h2)
      have kv := (Below.refl w2.heap.size w2).alloc (Nat.le_refl _) (.cells #[.int .i64 a, .pointer P, .int .i64 b, .pointer Q] 27)
      by_cases h0 : E = 0
      · subst h0
        obtain ⟨q, hq, hq1, hq2, hq3⟩ := hv.2.1 rfl
        have hup : errL (l.take (k + 1)) = 0 := Hup.out.trans hE.symm
        have V := Lib.hid (box_rat w2 a P b Q)
        have F := Lib.hid (show RatT (w2.alloc (.cells #[.int .i64 a, .pointer P, .int .i64 b, .pointer Q] 27)) (a, P, b, Q) s from ⟨q, hq.keep kv, hq1, Nat.lt_of_lt_of_le hq2 (ten_le (by decide)), Nat.lt_of_lt_of_le hq3 (ten_le (by decide))⟩)
        have Hcs := Lib.hid ((Hcs.out.keep h2).keep kv)
        have Hrs := Lib.hid (fun i r s h3 h4 h5 => ((Hrs.out i r s h3 h4 h5).keep h2).keep kv)
        have K3 := Lib.hid (below_on K2.out kv)
        have Hup := Lib.hid hup
        obtain ⟨x2, hx2⟩ : ∃ u, w2.alloc (.cells #[.int .i64 a, .pointer P, .int .i64 b, .pointer Q] 27) = u := ⟨_, rfl⟩
        obtain ⟨p2, hp2⟩ : ∃ p, w2.heap.size = p := ⟨_, rfl⟩
        rw [hx2] at V F Hcs Hrs K3
        rw [hp2] at V
        clear hv h2 kv hq hq1 hq2 hq3 hE hup
        have c0 := V.out.c0
        have c1 := V.out.c1
        have c2 := V.out.c2
        have c3 := V.out.c3
        have f0 := Hcs.out.fz (k * 4)
        have f1 := Hcs.out.fz (k * 4 + 1)
        have f2 := Hcs.out.fz (k * 4 + 2)
        have f3 := Hcs.out.fz (k * 4 + 3)
        obtain ⟨r0, hr0⟩ : ∃ r0, rs[k]? = some r0 := ⟨_, List.getElem?_eq_getElem (by omega)⟩
        have m0 : x2.cell? ⟨w.heap.size, k * 4, none⟩ = some (.int .i64 r0.1) := (Hcs.out.at_ _).trans (by rw [Nat.mul_comm k 4]; exact flat_get rs k 0 r0 hr0 (by decide))
        have m1 : x2.cell? ⟨w.heap.size, k * 4 + 1, none⟩ = some (.pointer r0.2.1) := (Hcs.out.at_ _).trans (by rw [Nat.mul_comm k 4]; exact flat_get rs k 1 r0 hr0 (by decide))
        have m2 : x2.cell? ⟨w.heap.size, k * 4 + 2, none⟩ = some (.int .i64 r0.2.2.1) := (Hcs.out.at_ _).trans (by rw [Nat.mul_comm k 4]; exact flat_get rs k 2 r0 hr0 (by decide))
        have m3 : x2.cell? ⟨w.heap.size, k * 4 + 3, none⟩ = some (.pointer r0.2.2.2) := (Hcs.out.at_ _).trans (by rw [Nat.mul_comm k 4]; exact flat_get rs k 3 r0 hr0 (by decide))
        clear hr0
        have HcsN := Lib.hid (Hcs.out.put4at (by omega : k < rs.length) (a, P, b, Q))
        have HbN := Lib.hid (below_put4at K3.out (Nat.le_refl _) k (.int .i64 a) (.pointer P) (.int .i64 b) (.pointer Q))
        have HrsN := Lib.hid (ratT_up (w' := put4at x2 w.heap.size k (.int .i64 a) (.pointer P) (.int .i64 b) (.pointer Q)) Hsk.out F.out Hrs.out (fun r s h => h.wrote Hcs.out (put4at_heap ..).1 (put4at_heap ..).2))
        go_wp2_with fail
        go_roundw
        case rel => exact ⟨k + 1, by omega, by go_num, Hup.out, ⟨rs.set k (a, P, b, Q), by rw [List.length_set]; exact hrl, HcsN.out, HrsN.out⟩, HbN.out⟩
        case measure => simp [intOf]; omega
      · have hst : errL l = E := (errL_stop (m := k + 1) (by rw [Hup.out, ← hE]; exact h0)).trans (Hup.out.trans hE.symm)
        have Hst := Lib.hid hst
        have K3 := Lib.hid (below_on K2.out kv)
        clear hv hE kv hst
        go_wp2
        go_ret2
        exact ⟨⟨.slice none 0 0, by rw [Hst.out]; rfl, fun _ => rfl, fun h => absurd (Hst.out.symm.trans h) h0⟩, K3.out⟩
    · obtain rfl : k = n := by omega
      have hl : l.take k = l := List.take_of_length_le (by rw [H.out.1]; exact Nat.le_refl _)
      have he := He.out
      rw [hl] at he
      have Hfin := Lib.hid (show RL wr (some ⟨w.heap.size, 0, none⟩) k l from ⟨H.out.1, _, rs, rfl, hrl, Hcs.out, fun i r s hr hs => Hrs.out i r s (by
        have h1 : i < rs.length := by
          rcases Nat.lt_or_ge i rs.length with h2 | h2
          · exact h2
          · rw [List.getElem?_eq_none h2] at hr; cases hr
        omega) hr hs⟩)
      have He := Lib.hid he
      clear he hl
      go_wp2
      go_ret2
      exact ⟨⟨.slice (some ⟨w.heap.size, 0, none⟩) k k, by rw [He.out]; rfl, fun h => absurd He.out h, fun _ => ⟨_, rfl, Hfin.out⟩⟩, Hb.out⟩
set_option maxRecDepth 100000 in
set_option maxHeartbeats 4000000 in
theorem parsesR_any (A : Option Addr) (n c : Nat) (l : List ByteArray) (w : World) (h : SL w A n l) (hn : n ≤ 8) (hs : ∀ s ∈ l, s.size ≤ 40) (hg : Good w) :
    Calls Tryz.prog 72 #[.slice A n c, .func (.func 15) #[] #[]] w (ParsesPost l n w) := by
  obtain ⟨i0, hi, hz0, hz1, hz2⟩ := info_parts info_rat
  have H := Lib.hid h
  have Hs := Lib.hid hs
  have Hg := Lib.hid (fun w' (hb : Below w.heap.size w w') => hg.below hb)
  clear h hs hg
  go_enter Tryz.func72, Tryz.ntmps72
  go_wp2_with (at_make; refine wpList_make_full _ rfl _ _ 41 rfl w.heap.size 27 i0 (.agg #[.int .i64 0, .pointer none, .int .i64 0, .pointer none]) 4 Tryz.underlying41 hi hz0 hz1 _ _ _ _ n rfl rfl rfl rfl (by rw [hz2]; omega) (by unfold maxLen; omega) (Nat.le_refl _) ?_)
  intro w1 hown hgr
  have Hc := Lib.hid (made_rats hown)
  have Hb1 := Lib.hid ((Below.refl w.heap.size w).grown hgr (Nat.le_refl _) (by simp))
  clear hown hgr
  go_wp2_with fail
  go_loopw [16] (fun v wr => ∃ k : Nat, k ≤ n ∧ v = .int .i64 (k : Nat) ∧ errL (l.take k) = 0 ∧ (∃ rs : List R4, rs.length = n ∧ Cells wr w.heap.size (flat rs) ∧ ∀ (i : Nat) (r : R4) (s : ByteArray), i < k → rs[i]? = some r → l[i]? = some s → RatT wr r s) ∧ Below w.heap.size w wr) (fun v _ => n - (intOf v).toNat)
  case atStart => exact ⟨0, Nat.zero_le _, rfl, rfl, ⟨_, List.length_replicate .., Hc.out, fun i r s h => absurd h (Nat.not_lt_zero _)⟩, Hb1.out⟩
  case round =>
    obtain ⟨k, hk, rfl, he, ⟨rs, hrl, hcs, hrs⟩, hb⟩ := hrel
    have He := Lib.hid he
    have Hcs := Lib.hid hcs
    have Hrs := Lib.hid hrs
    have Hb := Lib.hid hb
    clear he hcs hrs hb
    by_cases hlt : k < n
    · obtain ⟨s, b, o, hsk, rfl, _, hc⟩ := (H.out.keep Hb.out).at_ hlt
      have Hsk := Lib.hid hsk
      have HP := Lib.hid (fun w hg => rdE_any s w (by have := Hs.out s (List.mem_of_getElem? hsk); omega) hg)
      clear hsk
      go_wp2_with fail
      refine (HP.out _ (Hg.out _ Hb.out)).mono ?_
      rintro e w2 ⟨a, P, b, Q, E, rfl, hv, h2⟩
      have Hup := Lib.hid (errL_up Hsk.out)
      rw [if_pos He.out] at Hup
      have hE := hv.1
      have K2 := Lib.hid (below_on Hb.out h2)
      have kv := (Below.refl w2.heap.size w2).alloc (Nat.le_refl _) (.cells #[.int .i64 a, .pointer P, .int .i64 b, .pointer Q] 27)
      by_cases h0 : E = 0
      · subst h0
        obtain ⟨q, hq, hq1, hq2, hq3⟩ := hv.2.1 rfl
        have hup : errL (l.take (k + 1)) = 0 := Hup.out.trans hE.symm
        have V := Lib.hid (box_rat w2 a P b Q)
        have F := Lib.hid (show RatT (w2.alloc (.cells #[.int .i64 a, .pointer P, .int .i64 b, .pointer Q] 27)) (a, P, b, Q) s from ⟨q, hq.keep kv, hq1, Nat.lt_of_lt_of_le hq2 (ten_le (by decide)), Nat.lt_of_lt_of_le hq3 (ten_le (by decide))⟩)
        have Hcs := Lib.hid ((Hcs.out.keep h2).keep kv)
        have Hrs := Lib.hid (fun i r s h3 h4 h5 => ((Hrs.out i r s h3 h4 h5).keep h2).keep kv)
        have K3 := Lib.hid (below_on K2.out kv)
        have Hup := Lib.hid hup
        obtain ⟨x2, hx2⟩ : ∃ u, w2.alloc (.cells #[.int .i64 a, .pointer P, .int .i64 b, .pointer Q] 27) = u := ⟨_, rfl⟩
        obtain ⟨p2, hp2⟩ : ∃ p, w2.heap.size = p := ⟨_, rfl⟩
        rw [hx2] at V F Hcs Hrs K3
        rw [hp2] at V
        clear hv h2 kv hq hq1 hq2 hq3 hE hup
        have c0 := V.out.c0
        have c1 := V.out.c1
        have c2 := V.out.c2
        have c3 := V.out.c3
        have f0 := Hcs.out.fz (k * 4)
        have f1 := Hcs.out.fz (k * 4 + 1)
        have f2 := Hcs.out.fz (k * 4 + 2)
        have f3 := Hcs.out.fz (k * 4 + 3)
        obtain ⟨r0, hr0⟩ : ∃ r0, rs[k]? = some r0 := ⟨_, List.getElem?_eq_getElem (by omega)⟩
        have m0 : x2.cell? ⟨w.heap.size, k * 4, none⟩ = some (.int .i64 r0.1) := (Hcs.out.at_ _).trans (by rw [Nat.mul_comm k 4]; exact flat_get rs k 0 r0 hr0 (by decide))
        have m1 : x2.cell? ⟨w.heap.size, k * 4 + 1, none⟩ = some (.pointer r0.2.1) := (Hcs.out.at_ _).trans (by rw [Nat.mul_comm k 4]; exact flat_get rs k 1 r0 hr0 (by decide))
        have m2 : x2.cell? ⟨w.heap.size, k * 4 + 2, none⟩ = some (.int .i64 r0.2.2.1) := (Hcs.out.at_ _).trans (by rw [Nat.mul_comm k 4]; exact flat_get rs k 2 r0 hr0 (by decide))
        have m3 : x2.cell? ⟨w.heap.size, k * 4 + 3, none⟩ = some (.pointer r0.2.2.2) := (Hcs.out.at_ _).trans (by rw [Nat.mul_comm k 4]; exact flat_get rs k 3 r0 hr0 (by decide))
        clear hr0
        have HcsN := Lib.hid (Hcs.out.put4at (by omega : k < rs.length) (a, P, b, Q))
        have HbN := Lib.hid (below_put4at K3.out (Nat.le_refl _) k (.int .i64 a) (.pointer P) (.int .i64 b) (.pointer Q))
        have HrsN := Lib.hid (ratT_up (w' := put4at x2 w.heap.size k (.int .i64 a) (.pointer P) (.int .i64 b) (.pointer Q)) Hsk.out F.out Hrs.out (fun r s h => h.wrote Hcs.out (put4at_heap ..).1 (put4at_heap ..).2))
        go_wp2_with fail
        go_roundw
        case rel => exact ⟨k + 1, by omega, by go_num, Hup.out, ⟨rs.set k (a, P, b, Q), by rw [List.length_set]; exact hrl, HcsN.out, HrsN.out⟩, HbN.out⟩
        case measure => simp [intOf]; omega
      · have hst : errL l = E := (errL_stop (m := k + 1) (by rw [Hup.out, ← hE]; exact h0)).trans (Hup.out.trans hE.symm)
        have Hst := Lib.hid hst
        have K3 := Lib.hid (below_on K2.out kv)
        clear hv hE kv hst
        go_wp2
        go_ret2
        exact ⟨⟨.slice none 0 0, by rw [Hst.out]; rfl, fun _ => rfl, fun h => absurd (Hst.out.symm.trans h) h0⟩, K3.out⟩
    · obtain rfl : k = n := by omega
      have hl : l.take k = l := List.take_of_length_le (by rw [H.out.1]; exact Nat.le_refl _)
      have he := He.out
      rw [hl] at he
      have Hfin := Lib.hid (show RL wr (some ⟨w.heap.size, 0, none⟩) k l from ⟨H.out.1, _, rs, rfl, hrl, Hcs.out, fun i r s hr hs => Hrs.out i r s (by
        have h1 : i < rs.length := by
          rcases Nat.lt_or_ge i rs.length with h2 | h2
          · exact h2
          · rw [List.getElem?_eq_none h2] at hr; cases hr
        omega) hr hs⟩)
      have He := Lib.hid he
      clear he hl
      go_wp2
      go_ret2
      exact ⟨⟨.slice (some ⟨w.heap.size, 0, none⟩) k k, by rw [He.out]; rfl, fun h => absurd He.out h, fun _ => ⟨_, rfl, Hfin.out⟩⟩, Hb.out⟩
theorem listP_any (A : Option Addr) (n c : Nat) (l : List ByteArray) (w : World) (h : SL w A n l) (hn : n ≤ 8) (hs : ∀ s ∈ l, s.size ≤ 40) (hg : Good w) :
    Calls Tryz.prog 21 #[.slice A n c] w (ParsesPost l n w) := by
  have HP := Lib.hid (parsesP_any A n c l w h hn hs hg)
  unfold ParsesPost at *
  obtain ⟨E, hE⟩ : ∃ E, errL l = E := ⟨_, rfl⟩
  rw [hE] at HP ⊢
  clear h hs hg hE
  go_enter Tryz.func21, Tryz.ntmps21
  go_wp2_with fail
  refine HP.out.mono ?_
  rintro e w1 ⟨⟨v, rfl, h1, h2⟩, hb⟩
  have H1 := Lib.hid h1
  have H2 := Lib.hid h2
  have Hb := Lib.hid hb
  clear h1 h2 hb
  go_wp2
  go_ret2
  exact ⟨⟨v, rfl, H1.out, H2.out⟩, Hb.out⟩
theorem listR_any (A : Option Addr) (n c : Nat) (l : List ByteArray) (w : World) (h : SL w A n l) (hn : n ≤ 8) (hs : ∀ s ∈ l, s.size ≤ 40) (hg : Good w) :
    Calls Tryz.prog 22 #[.slice A n c] w (ParsesPost l n w) := by
  have HP := Lib.hid (parsesR_any A n c l w h hn hs hg)
  unfold ParsesPost at *
  obtain ⟨E, hE⟩ : ∃ E, errL l = E := ⟨_, rfl⟩
  rw [hE] at HP ⊢
  clear h hs hg hE
  go_enter Tryz.func22, Tryz.ntmps22
  go_wp2_with fail
  refine HP.out.mono ?_
  rintro e w1 ⟨⟨v, rfl, h1, h2⟩, hb⟩
  have H1 := Lib.hid h1
  have H2 := Lib.hid h2
  have Hb := Lib.hid hb
  clear h1 h2 hb
  go_wp2
  go_ret2
  exact ⟨⟨v, rfl, H1.out, H2.out⟩, Hb.out⟩
theorem made_strs {w w1 : World} {n : Nat} (hown : w1.ownsRow w.heap.size 31 1 (.slice (some ⟨w.heap.size, 0, none⟩) n n) n (madeCells #[.string ⟨#[]⟩] n).toList) : Cells w1 w.heap.size (strsOf (List.replicate n ⟨#[]⟩)) := by
  rcases hown.2 with ⟨h1, _⟩ | ⟨g', cap, cur, h1, hg, hh, hnc, hcm, hcs, hx⟩
  · cases h1
  · injection h1 with h1 _ h3
    injection h1 with h1
    injection h1 with h1
    subst h1 h3
    rw [List.take_of_length_le (by rw [Array.length_toList, hcs]; exact Nat.le_refl _)] at hx
    have e : cur.toList = strsOf (List.replicate n ⟨#[]⟩) := by
      rw [hx]
      unfold strsOf
      rw [List.map_replicate]
      apply List.ext_getElem?
      intro i
      by_cases hi : i < n
      · simp [madeCells, hi, Nat.mod_one]
      · rw [List.getElem?_eq_none (by simp [madeCells]; omega), List.getElem?_eq_none (by rw [List.length_replicate]; omega)]
    rw [← e]
    exact Cells.of_row hh
theorem RL.at_ {w : World} {A : Option Addr} {n : Nat} {l : List ByteArray} (h : RL w A n l) {k : Nat} (hk : k < n) : ∃ (g : Nat) (a : Int) (P : Option Addr) (b : Int) (Q : Option Addr) (s : ByteArray), A = some ⟨g, 0, none⟩ ∧ g < w.heap.size ∧ l[k]? = some s ∧ RatT w (a, P, b, Q) s ∧
    w.cell? ⟨g, k * 4, none⟩ = some (.int .i64 a) ∧ w.cell? ⟨g, k * 4 + 1, none⟩ = some (.pointer P) ∧ w.cell? ⟨g, k * 4 + 2, none⟩ = some (.int .i64 b) ∧ w.cell? ⟨g, k * 4 + 3, none⟩ = some (.pointer Q) := by
  obtain ⟨h1, g, rs, rfl, h3, h4, h5⟩ := h
  obtain ⟨s, hs⟩ : ∃ s, l[k]? = some s := ⟨_, List.getElem?_eq_getElem (by omega)⟩
  obtain ⟨⟨a, P, b, Q⟩, hr⟩ : ∃ r, rs[k]? = some r := ⟨_, List.getElem?_eq_getElem (by omega)⟩
  refine ⟨g, a, P, b, Q, s, rfl, h4.lt, hs, h5 k _ s hr hs, ?_, ?_, ?_, ?_⟩
  · exact (h4.at_ _).trans (by rw [Nat.mul_comm k 4]; exact flat_get rs k 0 _ hr (by decide))
  · exact (h4.at_ _).trans (by rw [Nat.mul_comm k 4]; exact flat_get rs k 1 _ hr (by decide))
  · exact (h4.at_ _).trans (by rw [Nat.mul_comm k 4]; exact flat_get rs k 2 _ hr (by decide))
  · exact (h4.at_ _).trans (by rw [Nat.mul_comm k 4]; exact flat_get rs k 3 _ hr (by decide))
theorem strs_set (l : List ByteArray) (k : Nat) (s : ByteArray) : (strsOf l).set k (.string s) = strsOf (l.set k s) := by
  unfold strsOf
  rw [List.map_set]
theorem strs_up {l ss : List ByteArray} {k : Nat} {s0 : ByteArray} (hs : l[k]? = some s0) (hk : k < ss.length) (h : ∀ (i : Nat) (s : ByteArray), i < k → l[i]? = some s → ss[i]? = some s) :
    ∀ (i : Nat) (s : ByteArray), i < k + 1 → l[i]? = some s → (ss.set k s0)[i]? = some s := by
  intro i s hi h1
  by_cases e : i = k
  · subst e
    rw [List.getElem?_set_self hk, ← hs, h1]
  · rw [List.getElem?_set_ne (fun h => e h.symm)]
    exact h i s (by omega) h1
set_option maxRecDepth 100000 in
set_option maxHeartbeats 4000000 in
theorem numbers_any (A : Option Addr) (n c : Nat) (l : List ByteArray) (w : World) (h : RL w A n l) (hn : n ≤ 8) (hg : Good w) :
    Calls Tryz.prog 24 #[.slice A n c] w fun e w' => (∃ B, e = .returned (.slice B n n) ∧ SL w' B n l) ∧ Below w.heap.size w w' := by
  obtain ⟨i0, hi, hz0, hz1, hz2⟩ := info_parts info_num
  have H := Lib.hid h
  have Hg := Lib.hid (fun w' (hb : Below w.heap.size w w') => hg.below hb)
  clear h hg
  go_enter Tryz.func24, Tryz.ntmps24
  go_wp2_with (at_make; refine wpList_make_full _ rfl _ _ 39 rfl w.heap.size 31 i0 (.string ⟨#[]⟩) 1 Tryz.underlying39 hi hz0 hz1 _ _ _ _ n rfl rfl rfl rfl (by rw [hz2]; omega) (by unfold maxLen; omega) (Nat.le_refl _) ?_)
  intro w1 hown hgr
  have Hc := Lib.hid (made_strs hown)
  have Hb1 := Lib.hid ((Below.refl w.heap.size w).grown hgr (Nat.le_refl _) (by simp))
  clear hown hgr
  go_wp2_with fail
  go_loopw [11] (fun v wr => ∃ k : Nat, k ≤ n ∧ v = .int .i64 (k : Nat) ∧ (∃ ss : List ByteArray, ss.length = n ∧ Cells wr w.heap.size (strsOf ss) ∧ ∀ (i : Nat) (s : ByteArray), i < k → l[i]? = some s → ss[i]? = some s) ∧ Below w.heap.size w wr) (fun v _ => n - (intOf v).toNat)
  case atStart => exact ⟨0, Nat.zero_le _, rfl, ⟨_, List.length_replicate .., Hc.out, fun i s h => absurd h (Nat.not_lt_zero _)⟩, Hb1.out⟩
  case round =>
    obtain ⟨k, hk, rfl, ⟨ss, hrl, hcs, hrs⟩, hb⟩ := hrel
    have Hcs := Lib.hid hcs
    have Hrs := Lib.hid hrs
    have Hb := Lib.hid hb
    clear hcs hrs hb
    by_cases hlt : k < n
    · obtain ⟨g, a, P, b, Q, s, rfl, hgw, hsk, ⟨q, hq, hq1, hq2, hq3⟩, c0, c1, c2, c3⟩ := (H.out.keep Hb.out).at_ hlt
      have Hsk := Lib.hid hsk
      have kv := (Below.refl wr.heap.size wr).alloc (Nat.le_refl _) (.cells #[.int .i64 a, .pointer P, .int .i64 b, .pointer Q] 27)
      have K2 := Lib.hid (below_on Hb.out kv)
      have V := Lib.hid (box_rat wr a P b Q)
      have HN := Lib.hid (number_any a P b Q q _ (hq.keep kv) hq2 hq3 (Hg.out _ K2.out))
      have Hcs := Lib.hid (Hcs.out.keep kv)
      rw [hq1] at HN
      obtain ⟨x2, hx2⟩ : ∃ u, wr.alloc (.cells #[.int .i64 a, .pointer P, .int .i64 b, .pointer Q] 27) = u := ⟨_, rfl⟩
      obtain ⟨p2, hp2⟩ : ∃ p, wr.heap.size = p := ⟨_, rfl⟩
      rw [hx2] at V K2 HN Hcs
      rw [hp2] at V
      have d0 := V.out.c0
      have d1 := V.out.c1
      have d2 := V.out.c2
      have d3 := V.out.c3
      clear hsk kv hq hq1 hq2 hq3 hgw
      go_wp2_with fail
      try simp only [hx2, hp2]
      refine HN.out.mono ?_
      rintro e w3 ⟨rfl, h3⟩
      have Hcs := Lib.hid (Hcs.out.keep h3)
      have K3 := Lib.hid (below_on K2.out h3)
      have f0 := Hcs.out.fz k
      obtain ⟨s1, hs1⟩ : ∃ s1, ss[k]? = some s1 := ⟨_, List.getElem?_eq_getElem (by omega)⟩
      have m0 : w3.cell? ⟨w.heap.size, k, none⟩ = some (.string s1) := (Hcs.out.at_ k).trans (by unfold strsOf; rw [List.getElem?_map, hs1]; rfl)
      have HcsN := Lib.hid (Hcs.out.set k (.string s) (by unfold strsOf; rw [List.length_map]; omega))
      rw [strs_set] at HcsN
      have HrsN := Lib.hid (strs_up Hsk.out (by omega : k < ss.length) Hrs.out)
      have HbN := Lib.hid (K3.out.setCell (p := ⟨w.heap.size, k, none⟩) (Nat.le_refl _) (.string s))
      clear h3 hs1 d0 d1 d2 d3 c0 c1 c2 c3
      go_wp2_with fail
      go_roundw
      case rel => exact ⟨k + 1, by omega, by go_num, ⟨ss.set k s, by rw [List.length_set]; exact hrl, HcsN.out, HrsN.out⟩, HbN.out⟩
      case measure => simp [intOf]; omega
    · obtain rfl : k = n := by omega
      have Hfin := Lib.hid (show SL wr (some ⟨w.heap.size, 0, none⟩) k l from ⟨H.out.1, fun i s hs => ⟨w.heap.size, 0, rfl, Hcs.out.lt, (Hcs.out.at_ _).trans (by
        have h1 : i < l.length := by
          rcases Nat.lt_or_ge i l.length with h2 | h2
          · exact h2
          · rw [List.getElem?_eq_none h2] at hs; cases hs
        have h2 := H.out.1
        unfold strsOf
        rw [Nat.zero_add, List.getElem?_map, Hrs.out i s (by omega) hs]
        rfl)⟩⟩)
      go_wp2
      go_ret
      exact ⟨⟨_, rfl, Hfin.out⟩, Hb.out⟩
end Go.Proofs.YtjcblcikipmojaaGreatDoor
