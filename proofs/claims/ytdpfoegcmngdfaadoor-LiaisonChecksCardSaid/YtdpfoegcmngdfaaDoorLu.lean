/- Liaisons: groups: names, searches, closures. -/
import Derived.Test.YtdpfoegcmngdfaaDoorLe
import Derived.Test.YtdpfoegcmngdfaaDoorLt
namespace Go.Proofs.YtdpfoegcmngdfaaDoor
open Go.RowKit
def nameT (s : ByteArray) : Bool := decide (0 < s.size ∧ s.size ≤ 40 ∧ ∀ k (h : k < s.size), 33 ≤ (s[k]).toNat ∧ (s[k]).toNat ≤ 126)
set_option maxRecDepth 100000 in
set_option maxHeartbeats 4000000 in
theorem is_any (s : ByteArray) (w : World) (hsz : s.size ≤ 1000) :
    Calls Tryd.prog 77 #[.string s] w fun e w' => e = .returned (.bool (nameT s)) ∧ w = w' := by
  go_enter Tryd.func77, Tryd.ntmps77
  go_wp2_with fail
  go_loop [3, 6] (fun _ i => ∃ k : Nat, k ≤ s.size ∧ i = .int .i64 k ∧ ∀ j (h : j < s.size), j < k → 33 ≤ (s[j]).toNat ∧ (s[j]).toNat ≤ 126) (fun _ i => s.size - (intOf i).toNat)
  case atStart => exact ⟨0, Nat.zero_le _, rfl, fun j h hj => absurd hj (Nat.not_lt_zero _)⟩
  case round =>
    obtain ⟨k, hk, rfl, hall⟩ := hrel
    have Hall := Lib.hid hall
    clear hall
    by_cases hlt : k < s.size
    · obtain ⟨x, hx⟩ : ∃ x, (s[k]).toNat = x := ⟨_, rfl⟩
      have Hx := Lib.hid hx
      by_cases h1 : 33 ≤ x
      · by_cases h2 : x ≤ 126
        · have t0 : decide ((x : Int) < 33) = false := decide_eq_false (by omega)
          have t1 : decide ((126 : Int) < (x : Int)) = false := decide_eq_false (by omega)
          have t2 : decide (x < 33) = false := decide_eq_false (by omega)
          have t3 : decide (126 < x) = false := decide_eq_false (by omega)
          have H1 := Lib.hid (show ∀ j (h : j < s.size), j < k + 1 → 33 ≤ (s[j]).toNat ∧ (s[j]).toNat ≤ 126 from fun j h hj => by
            rcases Nat.lt_or_ge j k with h3 | h3
            · exact Hall.out j h h3
            · obtain rfl : j = k := by omega
              rw [Hx.out]; exact ⟨h1, h2⟩)
          go_wp2_with fail
          go_round
          case rel => exact ⟨k + 1, by omega, by go_num, H1.out⟩
          case measure => simp [intOf]; omega
        · have hf := Lib.hid (show nameT s = false from decide_eq_false fun h => by have := h.2.2 k hlt; rw [Hx.out] at this; omega)
          have t0 : decide ((x : Int) < 33) = false := decide_eq_false (by omega)
          have t1 : decide ((126 : Int) < (x : Int)) = true := decide_eq_true (by omega)
          have t2 : decide (x < 33) = false := decide_eq_false (by omega)
          have t3 : decide (126 < x) = true := decide_eq_true (by omega)
          go_wp2_with fail
          go_ret
          exact ⟨ret_bool hf.out.symm, rfl⟩
      · have hf := Lib.hid (show nameT s = false from decide_eq_false fun h => by have := h.2.2 k hlt; rw [Hx.out] at this; omega)
        have t0 : decide ((x : Int) < 33) = true := decide_eq_true (by omega)
        have t2 : decide (x < 33) = true := decide_eq_true (by omega)
        go_wp2_with fail
        go_ret
        exact ⟨ret_bool hf.out.symm, rfl⟩
    · have hks : k = s.size := by omega
      subst hks
      by_cases h0 : 0 < s.size
      · have t0 : decide ((0 : Int) < (s.size : Int)) = true := decide_eq_true (by omega)
        have t2 : decide (0 < s.size) = true := decide_eq_true (by omega)
        by_cases h4 : s.size ≤ 40
        · have t1 : decide ((s.size : Int) ≤ 40) = true := decide_eq_true (by omega)
          have t3 : decide (s.size ≤ 40) = true := decide_eq_true (by omega)
          have hf := Lib.hid (show nameT s = true from decide_eq_true ⟨h0, h4, fun j h => Hall.out j h h⟩)
          go_wp2_with fail
          go_ret
          exact ⟨ret_bool hf.out.symm, rfl⟩
        · have t1 : decide ((s.size : Int) ≤ 40) = false := decide_eq_false (by omega)
          have t3 : decide (s.size ≤ 40) = false := decide_eq_false (by omega)
          have hf := Lib.hid (show nameT s = false from decide_eq_false fun h => h4 h.2.1)
          go_wp2_with fail
          go_ret
          exact ⟨ret_bool hf.out.symm, rfl⟩
      · have t0 : decide ((0 : Int) < (s.size : Int)) = false := decide_eq_false (by omega)
        have t2 : decide (0 < s.size) = false := decide_eq_false (by omega)
        have hf := Lib.hid (show nameT s = false from decide_eq_false fun h => h0 h.1)
        go_wp2_with fail
        go_ret
        exact ⟨ret_bool hf.out.symm, rfl⟩
abbrev Grp := ByteArray × List Int
def GL (w : World) (A : Option Addr) (rs : List Grp) : Prop :=
  ∀ k r, rs[k]? = some r → ∃ b o P c, A = some ⟨b, o, none⟩ ∧ b < w.heap.size ∧ w.cell? ⟨b, o + k * 2, none⟩ = some (.string r.1) ∧ w.cell? ⟨b, o + k * 2 + 1, none⟩ = some (.slice P r.2.length c) ∧ IL w P r.2
theorem GL.keep {w w' : World} {A : Option Addr} {rs : List Grp} (h : GL w A rs) (hb : Below w.heap.size w w') : GL w' A rs :=
  fun k r hk => let ⟨b, o, P, c, e1, hlt, hc, hd, hl⟩ := h k r hk; ⟨b, o, P, c, e1, Nat.lt_of_lt_of_le hlt hb.size, (hb.cell (p := ⟨b, o + k * 2, none⟩) hlt).trans hc, (hb.cell (p := ⟨b, o + k * 2 + 1, none⟩) hlt).trans hd, hl.keep hb⟩
theorem GL.at_ {w : World} {A : Option Addr} {rs : List Grp} (h : GL w A rs) {k : Nat} (hk : k < rs.length) : ∃ r b o P c, rs[k]? = some r ∧ A = some ⟨b, o, none⟩ ∧ b < w.heap.size ∧ w.cell? ⟨b, o + k * 2, none⟩ = some (.string r.1) ∧ w.cell? ⟨b, o + k * 2 + 1, none⟩ = some (.slice P r.2.length c) ∧ IL w P r.2 :=
  let ⟨b, o, P, c, h1⟩ := h k rs[k] (List.getElem?_eq_getElem hk)
  ⟨_, b, o, P, c, List.getElem?_eq_getElem hk, h1⟩
theorem GL.take {w : World} {A : Option Addr} {rs : List Grp} (h : GL w A rs) (n : Nat) : GL w A (rs.take n) := fun k r hk => h k r (by
  rw [List.getElem?_take] at hk
  split at hk
  · exact hk
  · cases hk)
/-- The first index of what a function finds, or -1. -/
def fidx {α : Type} (p : α → Bool) (l : List α) : Int := if l.any p then ((l.findIdx p : Nat) : Int) else -1
theorem fidx_hit {α : Type} {p : α → Bool} {l : List α} {j : Nat} {x : α} (h : (l.take j).any p = false) (hx : l[j]? = some x) (hp : p x = true) : fidx p l = (j : Nat) := by
  unfold fidx
  rw [if_pos (List.any_eq_true.2 ⟨x, List.mem_of_getElem? hx, hp⟩)]
  congr 1
  have hj : j < l.length := by
    rcases Nat.lt_or_ge j l.length with h | h
    · exact h
    · rw [List.getElem?_eq_none h] at hx; cases hx
  rw [List.findIdx_eq hj]
  rw [List.getElem?_eq_getElem hj] at hx
  injection hx with hx
  refine ⟨by rw [hx]; exact hp, fun i hi => ?_⟩
  rw [List.any_eq_false] at h
  have := h l[i] (List.mem_iff_getElem.2 ⟨i, by rw [List.length_take]; omega, by rw [List.getElem_take]⟩)
  simpa using this
theorem fidx_miss {α : Type} {p : α → Bool} {l : List α} (h : l.any p = false) : fidx p l = -1 := by unfold fidx; rw [h]; rfl
theorem fidx_ge {α : Type} (p : α → Bool) (l : List α) : decide (0 ≤ fidx p l) = l.any p := by
  unfold fidx
  cases h : l.any p with
  | true => rw [if_pos rfl]; simp
  | false => rw [if_neg (by simp)]; decide
theorem any_snoc {α : Type} {p : α → Bool} {l : List α} {j : Nat} {x : α} (hx : l[j]? = some x) (h : (l.take j).any p = false) (hp : p x = false) : (l.take (j + 1)).any p = false := by
  rw [List.take_add_one, hx, List.any_append, h]; simp [hp]
set_option maxRecDepth 100000 in
set_option maxHeartbeats 8000000 in
theorem grp1_idx (A : Option Addr) (m c : Nat) (es : List Grp) (del : Grp → Bool) (y : Value) (w : World) (h : GL w A es) (hlen : es.length = m) (hm : m ≤ 4611686018427387904)
    (hF : ∀ w' e A' d, e ∈ es → Below w.heap.size w w' → IL w' A' e.2 → Calls Tryd.prog 79 #[.agg #[.string e.1, .slice A' e.2.length d], y] w' fun r w2 => r = .returned (.bool (del e)) ∧ Below w'.heap.size w' w2) :
    Calls Tryd.prog 92 #[.slice A m c, .func (.func 79) #[] #[y]] w fun e w' => e = .returned (.int .i64 (fidx del es)) ∧ Below w.heap.size w w' := by
  have E0 := Lib.hid h
  have HF := Lib.hid hF
  have Hlen := Lib.hid hlen
  clear h hF hlen
  go_enter Tryd.func92, Tryd.ntmps92
  go_wp2_with fail
  go_loopw [5, 8] (fun _ i wr => ∃ j : Nat, i = .int .i64 (j : Nat) ∧ j ≤ m ∧ (es.take j).any del = false ∧ Below w.heap.size w wr) (fun _ i _ => m - (intOf i).toNat)
  case atStart => exact ⟨0, rfl, Nat.zero_le _, rfl, Below.refl _ _⟩
  case round =>
    obtain ⟨j, rfl, hj, hall, hb⟩ := hrel
    have Hall := Lib.hid hall
    have B6 := Lib.hid hb
    have E6 := Lib.hid (E0.out.keep hb)
    clear hall hb
    obtain ⟨wa, rfl⟩ : ∃ wa : World, wa = wr := ⟨_, rfl⟩
    by_cases hlt : j < m
    · have hlt2 : j < es.length := by rw [Hlen.out]; exact hlt
      obtain ⟨r, b, o, A', d, hx, rfl, _, c0, c1, hl⟩ := E6.out.at_ (k := j) hlt2
      have Hlt := Lib.hid hlt
      have Hx := Lib.hid hx
      have HFx := HF.out wa r A' d (List.mem_of_getElem? hx) B6.out hl
      obtain ⟨bx, hbx⟩ : ∃ bx, del r = bx := ⟨_, rfl⟩
      rw [hbx] at HFx
      try simp only at HFx
      have HFx := Lib.hid HFx
      have Hb := Lib.hid hbx
      clear hx hbx hlt2
      go_wp2_with fail
      refine HFx.out.mono ?_
      rintro e w7 ⟨rfl, hb7⟩
      have B7 := Lib.hid (below_on B6.out hb7)
      clear hb7
      cases bx
      · go_wp2_with fail
        go_roundw
        case rel => exact ⟨j + 1, by go_num, Hlt.out, any_snoc Hx.out Hall.out Hb.out, B7.out⟩
        case measure => simp [intOf]; have := Hlt.out; omega
      · go_wp2_with fail
        go_ret
        exact ⟨ret_int (fidx_hit Hall.out Hx.out Hb.out).symm, B7.out⟩
    · have hjl : es.take j = es := List.take_of_length_le (by rw [Hlen.out]; omega)
      rw [hjl] at Hall
      clear hjl
      go_wp2_with fail
      go_ret
      exact ⟨ret_int (fidx_miss Hall.out).symm, B6.out⟩
set_option maxRecDepth 100000 in
set_option maxHeartbeats 8000000 in
theorem grp1_con (A : Option Addr) (m c : Nat) (es : List Grp) (del : Grp → Bool) (y : Value) (w : World) (h : GL w A es) (hlen : es.length = m) (hm : m ≤ 4611686018427387904)
    (hF : ∀ w' e A' d, e ∈ es → Below w.heap.size w w' → IL w' A' e.2 → Calls Tryd.prog 79 #[.agg #[.string e.1, .slice A' e.2.length d], y] w' fun r w2 => r = .returned (.bool (del e)) ∧ Below w'.heap.size w' w2) :
    Calls Tryd.prog 78 #[.slice A m c, .func (.func 79) #[] #[y]] w fun e w' => e = .returned (.bool (es.any del)) ∧ Below w.heap.size w w' := by
  have HI := grp1_idx A m c es del y w h hlen hm hF
  have hge := fidx_ge del es
  obtain ⟨q, hq⟩ : ∃ q, fidx del es = q := ⟨_, rfl⟩
  rw [hq] at HI hge
  have HI := Lib.hid HI
  have Hge := Lib.hid hge
  clear h hF hlen hge hq
  go_enter Tryd.func78, Tryd.ntmps78
  go_wp2_with fail
  refine HI.out.mono ?_
  rintro e w1 ⟨rfl, hb1⟩
  have B1 := Lib.hid hb1
  clear hb1
  go_wp2_with fail
  go_ret
  exact ⟨ret_bool Hge.out, B1.out⟩
set_option maxRecDepth 100000 in
set_option maxHeartbeats 8000000 in
theorem grp2_idx (A : Option Addr) (m c : Nat) (es : List Grp) (del : Grp → Bool) (y : Value) (w : World) (h : GL w A es) (hlen : es.length = m) (hm : m ≤ 4611686018427387904)
    (hF : ∀ w' e A' d, e ∈ es → Below w.heap.size w w' → IL w' A' e.2 → Calls Tryd.prog 81 #[.agg #[.string e.1, .slice A' e.2.length d], y] w' fun r w2 => r = .returned (.bool (del e)) ∧ Below w'.heap.size w' w2) :
    Calls Tryd.prog 92 #[.slice A m c, .func (.func 81) #[] #[y]] w fun e w' => e = .returned (.int .i64 (fidx del es)) ∧ Below w.heap.size w w' := by
  have E0 := Lib.hid h
  have HF := Lib.hid hF
  have Hlen := Lib.hid hlen
  clear h hF hlen
  go_enter Tryd.func92, Tryd.ntmps92
  go_wp2_with fail
  go_loopw [5, 8] (fun _ i wr => ∃ j : Nat, i = .int .i64 (j : Nat) ∧ j ≤ m ∧ (es.take j).any del = false ∧ Below w.heap.size w wr) (fun _ i _ => m - (intOf i).toNat)
  case atStart => exact ⟨0, rfl, Nat.zero_le _, rfl, Below.refl _ _⟩
  case round =>
    obtain ⟨j, rfl, hj, hall, hb⟩ := hrel
    have Hall := Lib.hid hall
    have B6 := Lib.hid hb
    have E6 := Lib.hid (E0.out.keep hb)
    clear hall hb
    obtain ⟨wa, rfl⟩ : ∃ wa : World, wa = wr := ⟨_, rfl⟩
    by_cases hlt : j < m
    · have hlt2 : j < es.length := by rw [Hlen.out]; exact hlt
      obtain ⟨r, b, o, A', d, hx, rfl, _, c0, c1, hl⟩ := E6.out.at_ (k := j) hlt2
      have Hlt := Lib.hid hlt
      have Hx := Lib.hid hx
      have HFx := HF.out wa r A' d (List.mem_of_getElem? hx) B6.out hl
      obtain ⟨bx, hbx⟩ : ∃ bx, del r = bx := ⟨_, rfl⟩
      rw [hbx] at HFx
      try simp only at HFx
      have HFx := Lib.hid HFx
      have Hb := Lib.hid hbx
      clear hx hbx hlt2
      go_wp2_with fail
      refine HFx.out.mono ?_
      rintro e w7 ⟨rfl, hb7⟩
      have B7 := Lib.hid (below_on B6.out hb7)
      clear hb7
      cases bx
      · go_wp2_with fail
        go_roundw
        case rel => exact ⟨j + 1, by go_num, Hlt.out, any_snoc Hx.out Hall.out Hb.out, B7.out⟩
        case measure => simp [intOf]; have := Hlt.out; omega
      · go_wp2_with fail
        go_ret
        exact ⟨ret_int (fidx_hit Hall.out Hx.out Hb.out).symm, B7.out⟩
    · have hjl : es.take j = es := List.take_of_length_le (by rw [Hlen.out]; omega)
      rw [hjl] at Hall
      clear hjl
      go_wp2_with fail
      go_ret
      exact ⟨ret_int (fidx_miss Hall.out).symm, B6.out⟩
set_option maxRecDepth 100000 in
set_option maxHeartbeats 8000000 in
theorem grp2_con (A : Option Addr) (m c : Nat) (es : List Grp) (del : Grp → Bool) (y : Value) (w : World) (h : GL w A es) (hlen : es.length = m) (hm : m ≤ 4611686018427387904)
    (hF : ∀ w' e A' d, e ∈ es → Below w.heap.size w w' → IL w' A' e.2 → Calls Tryd.prog 81 #[.agg #[.string e.1, .slice A' e.2.length d], y] w' fun r w2 => r = .returned (.bool (del e)) ∧ Below w'.heap.size w' w2) :
    Calls Tryd.prog 78 #[.slice A m c, .func (.func 81) #[] #[y]] w fun e w' => e = .returned (.bool (es.any del)) ∧ Below w.heap.size w w' := by
  have HI := grp2_idx A m c es del y w h hlen hm hF
  have hge := fidx_ge del es
  obtain ⟨q, hq⟩ : ∃ q, fidx del es = q := ⟨_, rfl⟩
  rw [hq] at HI hge
  have HI := Lib.hid HI
  have Hge := Lib.hid hge
  clear h hF hlen hge hq
  go_enter Tryd.func78, Tryd.ntmps78
  go_wp2_with fail
  refine HI.out.mono ?_
  rintro e w1 ⟨rfl, hb1⟩
  have B1 := Lib.hid hb1
  clear hb1
  go_wp2_with fail
  go_ret
  exact ⟨ret_bool Hge.out, B1.out⟩
set_option maxRecDepth 100000 in
set_option maxHeartbeats 8000000 in
theorem grp3_idx (A : Option Addr) (m c : Nat) (es : List Grp) (del : Grp → Bool) (y : Value) (w : World) (h : GL w A es) (hlen : es.length = m) (hm : m ≤ 4611686018427387904)
    (hF : ∀ w' e A' d, e ∈ es → Below w.heap.size w w' → IL w' A' e.2 → Calls Tryd.prog 82 #[.agg #[.string e.1, .slice A' e.2.length d], y] w' fun r w2 => r = .returned (.bool (del e)) ∧ Below w'.heap.size w' w2) :
    Calls Tryd.prog 92 #[.slice A m c, .func (.func 82) #[] #[y]] w fun e w' => e = .returned (.int .i64 (fidx del es)) ∧ Below w.heap.size w w' := by
  have E0 := Lib.hid h
  have HF := Lib.hid hF
  have Hlen := Lib.hid hlen
  clear h hF hlen
  go_enter Tryd.func92, Tryd.ntmps92
  go_wp2_with fail
  go_loopw [5, 8] (fun _ i wr => ∃ j : Nat, i = .int .i64 (j : Nat) ∧ j ≤ m ∧ (es.take j).any del = false ∧ Below w.heap.size w wr) (fun _ i _ => m - (intOf i).toNat)
  case atStart => exact ⟨0, rfl, Nat.zero_le _, rfl, Below.refl _ _⟩
  case round =>
    obtain ⟨j, rfl, hj, hall, hb⟩ := hrel
    have Hall := Lib.hid hall
    have B6 := Lib.hid hb
    have E6 := Lib.hid (E0.out.keep hb)
    clear hall hb
    obtain ⟨wa, rfl⟩ : ∃ wa : World, wa = wr := ⟨_, rfl⟩
    by_cases hlt : j < m
    · have hlt2 : j < es.length := by rw [Hlen.out]; exact hlt
      obtain ⟨r, b, o, A', d, hx, rfl, _, c0, c1, hl⟩ := E6.out.at_ (k := j) hlt2
      have Hlt := Lib.hid hlt
      have Hx := Lib.hid hx
      have HFx := HF.out wa r A' d (List.mem_of_getElem? hx) B6.out hl
      obtain ⟨bx, hbx⟩ : ∃ bx, del r = bx := ⟨_, rfl⟩
      rw [hbx] at HFx
      try simp only at HFx
      have HFx := Lib.hid HFx
      have Hb := Lib.hid hbx
      clear hx hbx hlt2
      go_wp2_with fail
      refine HFx.out.mono ?_
      rintro e w7 ⟨rfl, hb7⟩
      have B7 := Lib.hid (below_on B6.out hb7)
      clear hb7
      cases bx
      · go_wp2_with fail
        go_roundw
        case rel => exact ⟨j + 1, by go_num, Hlt.out, any_snoc Hx.out Hall.out Hb.out, B7.out⟩
        case measure => simp [intOf]; have := Hlt.out; omega
      · go_wp2_with fail
        go_ret
        exact ⟨ret_int (fidx_hit Hall.out Hx.out Hb.out).symm, B7.out⟩
    · have hjl : es.take j = es := List.take_of_length_le (by rw [Hlen.out]; omega)
      rw [hjl] at Hall
      clear hjl
      go_wp2_with fail
      go_ret
      exact ⟨ret_int (fidx_miss Hall.out).symm, B6.out⟩
set_option maxRecDepth 100000 in
set_option maxHeartbeats 8000000 in
theorem grp3_con (A : Option Addr) (m c : Nat) (es : List Grp) (del : Grp → Bool) (y : Value) (w : World) (h : GL w A es) (hlen : es.length = m) (hm : m ≤ 4611686018427387904)
    (hF : ∀ w' e A' d, e ∈ es → Below w.heap.size w w' → IL w' A' e.2 → Calls Tryd.prog 82 #[.agg #[.string e.1, .slice A' e.2.length d], y] w' fun r w2 => r = .returned (.bool (del e)) ∧ Below w'.heap.size w' w2) :
    Calls Tryd.prog 78 #[.slice A m c, .func (.func 82) #[] #[y]] w fun e w' => e = .returned (.bool (es.any del)) ∧ Below w.heap.size w w' := by
  have HI := grp3_idx A m c es del y w h hlen hm hF
  have hge := fidx_ge del es
  obtain ⟨q, hq⟩ : ∃ q, fidx del es = q := ⟨_, rfl⟩
  rw [hq] at HI hge
  have HI := Lib.hid HI
  have Hge := Lib.hid hge
  clear h hF hlen hge hq
  go_enter Tryd.func78, Tryd.ntmps78
  go_wp2_with fail
  refine HI.out.mono ?_
  rintro e w1 ⟨rfl, hb1⟩
  have B1 := Lib.hid hb1
  clear hb1
  go_wp2_with fail
  go_ret
  exact ⟨ret_bool Hge.out, B1.out⟩
def ofI (l : List Int) : Nat := ofM (l.map Int.toNat)
def InG (l : List Int) : Prop := (∀ x ∈ l, 0 ≤ x ∧ x < 64) ∧ l.length ≤ 1000000
theorem zs_toNat {l : List Int} (h : ∀ x ∈ l, 0 ≤ x ∧ x < 64) : zs (l.map Int.toNat) = l := by
  unfold zs
  rw [List.map_map]
  conv => rhs; rw [← List.map_id l]
  refine List.map_congr_left fun x hx => ?_
  have := h x hx
  simp
  omega
theorem ofI_lt {l : List Int} (h : InG l) : ofI l < 18446744073709551616 := ofM_lt fun v hv => by
  obtain ⟨x, hx, rfl⟩ := List.mem_map.1 hv
  have := h.1 x hx
  omega
theorem ofI_any (A : Option Addr) (c : Nat) (l : List Int) (w : World) (h : IL w A l) (hl : InG l) :
    Calls Tryd.prog 62 #[.slice A l.length c] w fun e w' => e = .returned (.int .u64 (ofI l : Nat)) ∧ w = w' := by
  have h1 := of_any A c (l.map Int.toNat) w (by rw [zs_toNat hl.1]; exact h) (by rw [List.length_map]; exact hl.2) (fun v hv => by
    obtain ⟨x, hx, rfl⟩ := List.mem_map.1 hv
    have := hl.1 x hx
    omega)
  rw [List.length_map] at h1
  exact h1
theorem ofI_b (A : Option Addr) (c : Nat) (l : List Int) (w : World) (h : IL w A l) (hl : InG l) :
    Calls Tryd.prog 62 #[.slice A l.length c] w fun e w' => e = .returned (.int .u64 (ofI l : Nat)) ∧ Below w.heap.size w w' :=
  (ofI_any A c l w h hl).mono fun e w' ⟨h1, h2⟩ => ⟨h1, by rw [← h2]; exact Below.refl _ _⟩
set_option maxRecDepth 100000 in
set_option maxHeartbeats 4000000 in
theorem gc1_any (p : Nat) (nm : ByteArray) (s : ByteArray) (P : Option Addr) (n c : Nat) (w : World) (hp : w.cell? ⟨p, 0, none⟩ = some (.string nm)) :
    Calls Tryd.prog 79 #[.agg #[.string s, .slice P n c], .pointer (some ⟨p, 0, none⟩)] w fun e w' => e = .returned (.bool (s.toList == nm.toList)) ∧ Below w.heap.size w w' := by
  have kv := (Below.refl w.heap.size w).alloc (Nat.le_refl _) (.cells #[.string s, .slice P n c] 68)
  have hp2 := (kv.cell (p := ⟨p, 0, none⟩) (World.block_lt_of_cell? _ _ hp)).trans hp
  have P0 := Lib.hid (Cells.new w #[.string s, .slice P n c] 68)
  have kv := Lib.hid kv
  clear hp
  go_enter Tryd.func79, Tryd.ntmps79
  have g0 := P0.out.at_ 0
  simp only [List.getElem?_cons_zero] at g0
  go_wp2_with fail
  go_ret
  exact ⟨rfl, kv.out⟩
set_option maxRecDepth 100000 in
set_option maxHeartbeats 4000000 in
theorem gc2_any (p s : Nat) (nm : ByteArray) (P : Option Addr) (c : Nat) (l : List Int) (w : World) (hp : w.cell? ⟨p, 0, none⟩ = some (.int .u64 (s : Nat))) (h : IL w P l) (hl : InG l) :
    Calls Tryd.prog 81 #[.agg #[.string nm, .slice P l.length c], .pointer (some ⟨p, 0, none⟩)] w fun e w' => e = .returned (.bool (ofI l == s)) ∧ Below w.heap.size w w' := by
  have kv := (Below.refl w.heap.size w).alloc (Nat.le_refl _) (.cells #[.string nm, .slice P l.length c] 68)
  have hp2 := (kv.cell (p := ⟨p, 0, none⟩) (World.block_lt_of_cell? _ _ hp)).trans hp
  have P0 := Cells.new w #[.string nm, .slice P l.length c] 68
  have hpl := Nat.lt_of_lt_of_le (World.block_lt_of_cell? _ _ hp) kv.size
  have g1 := P0.at_ 1
  simp only [List.getElem?_cons_zero, List.getElem?_cons_succ] at g1
  have hz : w.heap.size < (w.alloc (.cells #[.string nm, .slice P l.length c] 68)).heap.size := by simp
  have hil := h.keep kv
  obtain ⟨wm, hwm⟩ : ∃ u, w.alloc (.cells #[.string nm, .slice P l.length c] 68) = u := ⟨_, rfl⟩
  have Hwm := Lib.hid hwm
  rw [hwm] at g1 hp2 hpl hz hil kv
  have HO := Lib.hid (fun w' (hb : Below wm.heap.size wm w') => ofI_b P c l w' (hil.keep hb) hl)
  have HS := Lib.hid (fun w' (hb : Below wm.heap.size wm w') => (⟨(hb.cell (p := ⟨w.heap.size, 1, none⟩) hz).trans g1, (hb.cell (p := ⟨p, 0, none⟩) hpl).trans hp2⟩ : w'.cell? ⟨w.heap.size, 1, none⟩ = some (.slice P l.length c) ∧ w'.cell? ⟨p, 0, none⟩ = some (.int .u64 (s : Nat))))
  have kv := Lib.hid kv
  have HQ := Lib.hid (show (((ofI l : Nat) : Int) == (s : Int)) = (ofI l == s) by rw [Bool.eq_iff_iff, beq_iff_eq, beq_iff_eq]; omega)
  clear hp h hl hp2 P0 hpl g1 hz hil hwm
  go_enter Tryd.func81, Tryd.ntmps81
  go_upto_region 1 with fail
  simp only [Hwm.out]
  refine Till.begin 5 (fun w' => w'.cell? ⟨w.heap.size, 1, none⟩ = some (.slice P l.length c) ∧ w'.cell? ⟨p, 0, none⟩ = some (.int .u64 (s : Nat))) (by kernel_rfl) (HS.out _ (Below.refl _ _).drew) (fun hH => ?_)
  clear hH
  have HB := Lib.hid (Below.refl wm.heap.size wm).drew
  generalize wm.drew = v0 at HB ⊢
  try simp only [List.setIfInBounds_toArray, List.set_cons_zero, List.set_cons_succ]
  refine Till.tk 0 1 4 (.pointer (some ⟨w.heap.size, 1, none⟩)) (HS.out _ HB.out) ?_
  try simp only [Act.put, List.setIfInBounds_toArray, List.set_cons_zero, List.set_cons_succ]
  refine Till.tk 1 2 5 (.slice P l.length c) (HS.out _ HB.out) ?_
  try simp only [Act.put, List.setIfInBounds_toArray, List.set_cons_zero, List.set_cons_succ]
  refine Till.tk 3 4 7 (.int .u64 (s : Nat)) (HS.out _ HB.out) ?_
  try simp only [Act.put, List.setIfInBounds_toArray, List.set_cons_zero, List.set_cons_succ]
  refine Till.one (i := 2) (by kernel_rfl) rfl (fun K hK => ?_)
  go_simp
  refine (HO.out _ HB.out).mono ?_
  rintro e v1 ⟨rfl, g⟩
  replace HB := Lib.hid (below_on HB.out g)
  clear g
  go_wp2_with fail
  refine hK.out _ _ (fun _ => HS.out _ HB.out) ?_
  clear hK K
  try simp only [List.setIfInBounds_toArray, List.set_cons_zero, List.set_cons_succ]
  refine Till.one (i := 4) (by kernel_rfl) rfl (fun K hK => ?_)
  go_simp
  refine hK.out _ _ (fun _ => HS.out _ HB.out) ?_
  clear hK K
  try simp only [List.setIfInBounds_toArray, List.set_cons_zero, List.set_cons_succ]
  refine Till.one (i := 5) (by kernel_rfl) rfl (fun K hK => ?_)
  go_simp
  refine hK.out _ _ (fun h => absurd h (by simp)) ?_
  clear hK K
  try simp only [List.setIfInBounds_toArray, List.set_cons_zero, List.set_cons_succ]
  refine Till.done (by kernel_rfl) ?_ _
  have B7 := Lib.hid (below_on kv.out HB.out)
  go_wp2_with fail
  go_ret
  exact ⟨ret_bool HQ.out, B7.out⟩
end Go.Proofs.YtdpfoegcmngdfaaDoor
