/- Liaisons: the groups of a hierarchy are checked. -/
import Derived.Test.YtdpfoegcmngdfaaDoorLw
namespace Go.Proofs.YtdpfoegcmngdfaaDoor
open Go.RowKit
def grpAt (n : Int) (gs : List Grp) (k : Nat) : Int := grpE n (gs.take k) (gs.getD k default)
def grpsE (n : Int) (gs : List Grp) : Int := if n < 0 ∨ 12 < n then 2 else if 32 < gs.length then 6 else firstE ((List.range gs.length).map (grpAt n gs))
theorem grp_get {gs : List Grp} {k : Nat} {r : Grp} (h : gs[k]? = some r) : gs.getD k default = r := by rw [List.getD_eq_getElem?_getD, h]; rfl
theorem grp_in {n : Int} {es : List Grp} {g : Grp} (h : grpE n es g = 0) (hn : n ≤ 64) (hl : g.2.length ≤ 1000000) : InG g.2 := by
  unfold grpE at h
  split at h
  · cases h
  · split at h
    · cases h
    · split at h
      · cases h
      · split at h
        · next h1 => exact absurd h h1
        · next h1 =>
          have h2 : memE n g.2 = 0 := Decidable.of_not_not h1
          exact ⟨fun x hx => ⟨(mem_ok h2 x hx).1, by have := (mem_ok h2 x hx).2; omega⟩, hl⟩
theorem grps_in {n : Int} {gs : List Grp} {k : Nat} (h : ∀ j, j < k → grpAt n gs j = 0) (hn : n ≤ 64) (hl : ∀ e ∈ gs, e.2.length ≤ 1000000) : ∀ e ∈ gs.take k, InG e.2 := fun e he => by
  obtain ⟨j, hj, rfl⟩ := List.mem_iff_getElem.1 he
  have hj2 : j < k ∧ j < gs.length := by rw [List.length_take] at hj; omega
  rw [List.getElem_take]
  have h1 := h j hj2.1
  unfold grpAt at h1
  rw [grp_get (List.getElem?_eq_getElem hj2.2)] at h1
  exact grp_in h1 hn (hl _ (List.getElem_mem _))
theorem load_group (w : World) (p : Nat) (x y : Value) (h0 : w.cell? ⟨p, 0, none⟩ = some x) (h1 : w.cell? ⟨p, 1, none⟩ = some y) : (loadVar 68 ⟨p, 0, none⟩).run Tryd.prog w = .ok (.agg #[x, y]) w := by
  go_simp
def SmallG (gs : List Grp) : Prop := ∀ e ∈ gs, e.1.size ≤ 1000 ∧ e.2.length ≤ 1000000
set_option maxRecDepth 100000 in
set_option maxHeartbeats 8000000 in
theorem checkGroups_any (n : Int) (A : Option Addr) (m c : Nat) (gs : List Grp) (w : World) (h : GL w A gs) (hlen : gs.length = m) (hm : m ≤ 1000000) (hs : SmallG gs) (hmc : m ≤ c) :
    Calls Tryd.prog 36 #[.slice A m c, .int .i64 n] w fun e w' => e = .returned (.int .i64 (grpsE n gs)) ∧ Below w.heap.size w w' := by
  have hdef : grpsE n gs = if n < 0 ∨ 12 < n then 2 else if 32 < gs.length then 6 else firstE ((List.range gs.length).map (grpAt n gs)) := rfl
  rw [hlen] at hdef
  obtain ⟨G, hG⟩ : ∃ G, grpsE n gs = G := ⟨_, rfl⟩
  rw [hG] at hdef ⊢
  have HD := Lib.hid hdef
  have E0 := Lib.hid h
  have Hlen := Lib.hid hlen
  have Hs := Lib.hid hs
  clear h hG hdef hlen hs
  go_enter Tryd.func36, Tryd.ntmps36
  by_cases hn0 : n < 0
  · have t0 : decide (n < 0) = true := decide_eq_true hn0
    go_wp2_with fail
    go_ret
    exact ⟨ret_int (by rw [HD.out, if_pos (Or.inl hn0)]), Below.refl _ _⟩
  have t0 : decide (n < 0) = false := decide_eq_false hn0
  by_cases hn1 : 12 < n
  · have t1 : decide (12 < n) = true := decide_eq_true hn1
    go_wp2_with fail
    go_ret
    exact ⟨ret_int (by rw [HD.out, if_pos (Or.inr hn1)]), Below.refl _ _⟩
  have t1 : decide (12 < n) = false := decide_eq_false hn1
  by_cases hm2 : 32 < m
  · have t2 : decide (32 < m) = true := decide_eq_true hm2
    have t3 : decide ((32 : Int) < (m : Int)) = true := decide_eq_true (by omega)
    go_wp2_with fail
    go_ret
    exact ⟨ret_int (by rw [HD.out, if_neg (by omega), if_pos hm2]), Below.refl _ _⟩
  have t2 : decide (32 < m) = false := decide_eq_false hm2
  have t3 : decide ((32 : Int) < (m : Int)) = false := decide_eq_false (by omega)
  have HD2 := Lib.hid (show G = firstE ((List.range m).map (grpAt n gs)) by rw [HD.out, if_neg (by omega), if_neg hm2])
  go_wp2_with fail
  go_loopw [19] (fun i wr => ∃ k : Nat, i = .int .i64 (k : Nat) ∧ k ≤ m ∧ (∀ j, j < k → grpAt n gs j = 0) ∧ Below w.heap.size w wr) (fun i _ => m - (intOf i).toNat)
  case atStart => exact ⟨0, rfl, Nat.zero_le _, fun j hj => absurd hj (Nat.not_lt_zero _), Below.refl _ _⟩
  case round =>
    obtain ⟨k, rfl, hk, hall, hb⟩ := hrel
    have Hall := Lib.hid hall
    have B6 := Lib.hid hb
    have E6 := Lib.hid (E0.out.keep hb)
    clear hall hb
    obtain ⟨wp, rfl⟩ : ∃ wp : World, wp = wr := ⟨_, rfl⟩
    by_cases hlt : k < m
    · obtain ⟨r, b, o, P, d, hx, rfl, hbl, c0, c1, hil⟩ := E6.out.at_ (k := k) (by rw [Hlen.out]; exact hlt)
      have Hx := Lib.hid hx
      have hsr := Hs.out r (List.mem_of_getElem? hx)
      have kv := (Below.refl wp.heap.size wp).alloc (Nat.le_refl _) (.cells #[.string r.1, .slice P r.2.length d] 68)
      have P0 := Cells.new wp #[.string r.1, .slice P r.2.length d] 68
      have g0 := P0.at_ 0
      have g1 := P0.at_ 1
      simp only [List.getElem?_cons_zero, List.getElem?_cons_succ] at g0 g1
      have hil1 := hil.keep kv
      have hgl1 := (E6.out.take k).keep kv
      obtain ⟨wm, hwm⟩ : ∃ u, wp.alloc (.cells #[.string r.1, .slice P r.2.length d] 68) = u := ⟨_, rfl⟩
      have hz : wp.heap.size < wm.heap.size := by rw [← hwm]; simp
      have Hwm := Lib.hid hwm
      rw [hwm] at g0 g1 hil1 hgl1 kv
      have hin := grps_in Hall.out (n := n) (by omega) (fun e he => (Hs.out e he).2)
      have HK := fun w' (hb : Below wm.heap.size wm w') => checkGroup_any n (some ⟨b, o, none⟩) k c (gs.take k) r.1 P d r.2 w' (hgl1.keep hb) (by rw [List.length_take, Hlen.out]; omega) (by omega) hin hsr.1 (hil1.keep hb) hsr.2 (by omega)
      have hat : grpE n (gs.take k) (r.1, r.2) = grpAt n gs k := by unfold grpAt; rw [grp_get hx]
      rw [hat] at HK
      have HS := Lib.hid (fun w' (hb : Below wm.heap.size wm w') => (⟨(hb.cell (p := ⟨wp.heap.size, 0, none⟩) hz).trans g0, (hb.cell (p := ⟨wp.heap.size, 1, none⟩) hz).trans g1⟩ : w'.cell? ⟨wp.heap.size, 0, none⟩ = some (.string r.1) ∧ w'.cell? ⟨wp.heap.size, 1, none⟩ = some (.slice P r.2.length d)))
      have B7 := Lib.hid (below_on B6.out kv)
      obtain ⟨E, hE⟩ : ∃ E, grpAt n gs k = E := ⟨_, rfl⟩
      rw [hE] at HK
      have HK := Lib.hid HK
      have HE := Lib.hid hE
      have i0 : (k : Int) ≤ (c : Int) := by omega
      clear hx hsr P0 g0 g1 hil hil1 hgl1 kv hwm hz hin hat hE
      go_upto_region 8 with fail
      simp only [Hwm.out]
      refine Till.begin 6 (fun w' => w'.cell? ⟨wp.heap.size, 0, none⟩ = some (.string r.1) ∧ w'.cell? ⟨wp.heap.size, 1, none⟩ = some (.slice P r.2.length d)) (by kernel_rfl) (HS.out _ (Below.refl _ _).drew) (fun hH => ?_)
      clear hH
      have HB := Lib.hid (Below.refl wm.heap.size wm).drew
      generalize wm.drew = v0 at HB ⊢
      try simp only [List.setIfInBounds_toArray, List.set_cons_zero, List.set_cons_succ]
      refine Till.tk 0 2 24 (.slice (some ⟨b, o, none⟩) m c) (HS.out _ HB.out) ?_
      try simp only [Act.put, List.setIfInBounds_toArray, List.set_cons_zero, List.set_cons_succ]
      refine Till.tk 1 2 25 (.int .i64 (k : Nat)) (HS.out _ HB.out) ?_
      try simp only [Act.put, List.setIfInBounds_toArray, List.set_cons_zero, List.set_cons_succ]
      refine Till.tk 2 5 26 (.slice (some ⟨b, o, none⟩) k c) (HS.out _ HB.out) ?_
      try simp only [Act.put, List.setIfInBounds_toArray, List.set_cons_zero, List.set_cons_succ]
      refine Till.tk 3 5 27 (.agg #[.string r.1, .slice P r.2.length d]) (HS.out _ HB.out) ?_
      try simp only [Act.put, List.setIfInBounds_toArray, List.set_cons_zero, List.set_cons_succ]
      refine Till.one (i := 4) (by kernel_rfl) rfl (fun K hK => ?_)
      go_simp
      refine hK.out _ _ (fun _ => HS.out _ HB.out) ?_
      clear hK K
      try simp only [List.setIfInBounds_toArray, List.set_cons_zero, List.set_cons_succ]
      refine Till.one (i := 5) (by kernel_rfl) rfl (fun K hK => ?_)
      go_simp
      refine (HK.out _ HB.out).mono ?_
      rintro e v1 ⟨rfl, g⟩
      replace HB := Lib.hid (below_on HB.out g)
      clear g
      go_wp2_with fail
      refine hK.out _ _ (fun _ => HS.out _ HB.out) ?_
      clear hK K
      try simp only [List.setIfInBounds_toArray, List.set_cons_zero, List.set_cons_succ]
      refine Till.one (i := 6) (by kernel_rfl) rfl (fun K hK => ?_)
      go_simp
      refine hK.out _ _ (fun h => absurd h (by simp)) ?_
      clear hK K
      try simp only [List.setIfInBounds_toArray, List.set_cons_zero, List.set_cons_succ]
      refine Till.done (by kernel_rfl) ?_ _
      have B8 := Lib.hid (below_on B7.out HB.out)
      by_cases he : E = 0
      · subst he
        have Hn := Lib.hid (fun j (hj : j < k + 1) => show grpAt n gs j = 0 by
          rcases Nat.lt_or_ge j k with h1 | h1
          · exact Hall.out j h1
          · obtain rfl : j = k := by omega
            exact HE.out)
        go_wp2_with fail
        go_roundw
        case rel => exact ⟨k + 1, by go_num, by omega, Hn.out, B8.out⟩
        case measure => simp [intOf]; omega
      · have t9 : (E != 0) = true := by simpa using he
        have Hf := Lib.hid (show G = E by rw [HD2.out, firstE_at hlt Hall.out (by rw [HE.out]; exact he), HE.out])
        clear he
        go_wp2_with fail
        go_ret
        exact ⟨ret_int Hf.out.symm, B8.out⟩
    · have hkm : k = m := by omega
      have Hf := Lib.hid (show G = 0 by rw [HD2.out]; exact firstE_none fun j hj => Hall.out j (by omega))
      clear hkm
      go_wp2_with fail
      go_ret
      exact ⟨ret_int Hf.out.symm, B6.out⟩
end Go.Proofs.YtdpfoegcmngdfaaDoor
