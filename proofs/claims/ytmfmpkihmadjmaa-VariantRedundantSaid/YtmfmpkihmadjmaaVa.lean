/- Rules that are satisfied, configurations that are allowed. -/
import Derived.Test.YtmfmpkihmadjmaaVl
namespace Go.Proofs.Ytmfmpkihmadjmaa
open Go.RowKit
/-- The first index of what a function finds, or -1. -/
def fidx {α : Type} (p : α → Bool) (l : List α) : Int := if l.any p then ((l.findIdx p : Nat) : Int) else -1
theorem fidx_hit {α : Type} {p : α → Bool} {l : List α} {j : Nat} {x : α} (h : (l.take j).any p = false) (hx : l[j]? = some x) (hp : p x = true) : fidx p l = (j : Nat) := by
  unfold fidx
  rw [if_pos (List.any_eq_true.2 ⟨x, List.mem_of_getElem? hx, hp⟩)]
  congr 1
  have hj : j < l.length := by
    rcases Nat.lt_or_ge j l.length with h | h
    · exact h
    · rw [List.getElem?_eq_none h] at hx; cases hx
  rw [List.findIdx_eq hj]
  rw [List.getElem?_eq_getElem hj] at hx
  injection hx with hx
  refine ⟨by rw [hx]; exact hp, fun i hi => ?_⟩
  rw [List.any_eq_false] at h
  have := h l[i] (List.mem_iff_getElem.2 ⟨i, by rw [List.length_take]; omega, by rw [List.getElem_take]⟩)
  simpa using this
theorem fidx_miss {α : Type} {p : α → Bool} {l : List α} (h : l.any p = false) : fidx p l = -1 := by unfold fidx; rw [h]; rfl
theorem fidx_ge {α : Type} (p : α → Bool) (l : List α) : decide (0 ≤ fidx p l) = l.any p := by
  unfold fidx
  cases h : l.any p with
  | true => rw [if_pos rfl]; simp
  | false => rw [if_neg (by simp)]; decide
theorem any_snoc {α : Type} {p : α → Bool} {l : List α} {j : Nat} {x : α} (hx : l[j]? = some x) (h : (l.take j).any p = false) (hp : p x = false) : (l.take (j + 1)).any p = false := by
  rw [List.take_add_one, hx, List.any_append, h]; simp [hp]
theorem LitL.one (w : World) (x : Nat) (s : Bool) : LitL (w.alloc (.cells #[.int .i64 (x : Nat), .bool s] 68)) (some ⟨w.heap.size, 0, none⟩) (lc [(x, s)]) := by
  have C := Cells.new w #[.int .i64 (x : Nat), .bool s] 68
  intro k e hk
  cases k with
  | zero =>
    injection hk with hk
    subst hk
    exact ⟨w.heap.size, 0, rfl, by simp, C.at_ 0, C.at_ 1⟩
  | succ k => cases hk
set_option maxRecDepth 100000 in
set_option maxHeartbeats 8000000 in
theorem sat1_any (p c x : Nat) (s : Bool) (w : World) (hx : x < 12) (hc : c < 18446744073709551616) (hp : w.cell? ⟨p, 0, none⟩ = some (.int .u64 (c : Nat))) :
    Calls Try.prog 66 #[.agg #[.int .i64 (x : Nat), .bool s], .pointer (some ⟨p, 0, none⟩)] w fun e w' => e = .returned (.bool (litB c (x, s))) ∧ Below w.heap.size w w' := by
  have kv := (Below.refl w.heap.size w).alloc (Nat.le_refl _) (.cells #[.int .i64 (x : Nat), .bool s] 68)
  have hp2 := (kv.cell (p := ⟨p, 0, none⟩) (World.block_lt_of_cell? _ _ hp)).trans hp
  have P0 := Lib.hid (Cells.new w #[.int .i64 (x : Nat), .bool s] 68)
  have kv := Lib.hid kv
  obtain ⟨wm, hwm⟩ : ∃ u, w.alloc (.cells #[.int .i64 (x : Nat), .bool s] 68) = u := ⟨_, rfl⟩
  rw [hwm] at P0 kv hp2
  have HH := holds_any c (some ⟨wm.heap.size, 0, none⟩) 1 1 [(x, s)] _ (LitL.one wm x s) rfl (fun l hl => by rw [List.mem_singleton.1 hl]; exact hx) hc (by omega)
  rw [show [(x, s)].all (litB c) = litB c (x, s) by simp] at HH
  obtain ⟨q, hq⟩ : ∃ q, litB c (x, s) = q := ⟨_, rfl⟩
  rw [hq] at HH ⊢
  have HH := Lib.hid HH
  have B1 := Lib.hid (kv.out.alloc kv.out.size (.cells #[.int .i64 (x : Nat), .bool s] 68))
  clear hp hx hc hq
  go_enter Try.func66, Try.ntmps66
  have g0 := P0.out.at_ 0
  have g1 := P0.out.at_ 1
  simp only [List.getElem?_cons_zero, List.getElem?_cons_succ] at g0 g1
  go_wp2_with fail
  refine HH.out.mono ?_
  rintro e w1 ⟨rfl, hb1⟩
  have B2 := Lib.hid (below_on B1.out hb1)
  clear hb1
  go_wp2_with fail
  go_ret
  exact ⟨rfl, B2.out⟩
set_option maxRecDepth 100000 in
set_option maxHeartbeats 8000000 in
theorem lit66_idx (A : Option Addr) (m c : Nat) (es : List (Nat × Bool)) (del : (Nat × Bool) → Bool) (y : Value) (w : World) (h : LitL w A (lc es)) (hlen : es.length = m) (hm : m ≤ 4611686018427387904)
    (hF : ∀ w' e, e ∈ es → Below w.heap.size w w' → Calls Try.prog 66 #[.agg #[.int .i64 (e.1 : Nat), .bool e.2], y] w' fun r w2 => r = .returned (.bool (del e)) ∧ Below w'.heap.size w' w2) :
    Calls Try.prog 73 #[.slice A m c, .func (.func 66) #[] #[y]] w fun e w' => e = .returned (.int .i64 (fidx del es)) ∧ Below w.heap.size w w' := by
  have E0 := Lib.hid h
  have HF := Lib.hid hF
  have Hlen := Lib.hid hlen
  clear h hF hlen
  go_enter Try.func73, Try.ntmps73
  go_wp2_with fail
  go_loopw [5, 8] (fun _ i wr => ∃ j : Nat, i = .int .i64 (j : Nat) ∧ j ≤ m ∧ (es.take j).any del = false ∧ Below w.heap.size w wr) (fun _ i _ => m - (intOf i).toNat)
  case atStart => exact ⟨0, rfl, Nat.zero_le _, rfl, Below.refl _ _⟩
  case round =>
    obtain ⟨j, rfl, hj, hall, hb⟩ := hrel
    have Hall := Lib.hid hall
    have B6 := Lib.hid hb
    have E6 := Lib.hid (E0.out.keep hb)
    clear hall hb
    obtain ⟨wa, rfl⟩ : ∃ wa : World, wa = wr := ⟨_, rfl⟩
    by_cases hlt : j < m
    · have hlt2 : j < es.length := by rw [Hlen.out]; exact hlt
      obtain ⟨e0, b, o, he, rfl, _, c0, c1⟩ := E6.out.at_ (k := j) (by rw [lc_len]; exact hlt2)
      obtain ⟨x, s, hx, rfl⟩ := lc_at he
      simp only at c0 c1
      clear he
      have Hlt := Lib.hid hlt
      have Hx := Lib.hid hx
      have HFx := HF.out wa (x, s) (List.mem_of_getElem? hx) B6.out
      obtain ⟨bx, hbx⟩ : ∃ bx, del (x, s) = bx := ⟨_, rfl⟩
      rw [hbx] at HFx
      try simp only at HFx
      have HFx := Lib.hid HFx
      have Hb := Lib.hid hbx
      clear hx hbx hlt2
      go_wp2_with fail
      refine HFx.out.mono ?_
      rintro e w7 ⟨rfl, hb7⟩
      have B7 := Lib.hid (below_on B6.out hb7)
      clear hb7
      cases bx
      · go_wp2_with fail
        go_roundw
        case rel => exact ⟨j + 1, by go_num, Hlt.out, any_snoc Hx.out Hall.out Hb.out, B7.out⟩
        case measure => simp [intOf]; have := Hlt.out; omega
      · go_wp2_with fail
        go_ret
        exact ⟨ret_int (fidx_hit Hall.out Hx.out Hb.out).symm, B7.out⟩
    · have hjl : es.take j = es := List.take_of_length_le (by rw [Hlen.out]; omega)
      rw [hjl] at Hall
      clear hjl
      go_wp2_with fail
      go_ret
      exact ⟨ret_int (fidx_miss Hall.out).symm, B6.out⟩
set_option maxRecDepth 100000 in
set_option maxHeartbeats 8000000 in
theorem lit66_con (A : Option Addr) (m c : Nat) (es : List (Nat × Bool)) (del : (Nat × Bool) → Bool) (y : Value) (w : World) (h : LitL w A (lc es)) (hlen : es.length = m) (hm : m ≤ 4611686018427387904)
    (hF : ∀ w' e, e ∈ es → Below w.heap.size w w' → Calls Try.prog 66 #[.agg #[.int .i64 (e.1 : Nat), .bool e.2], y] w' fun r w2 => r = .returned (.bool (del e)) ∧ Below w'.heap.size w' w2) :
    Calls Try.prog 54 #[.slice A m c, .func (.func 66) #[] #[y]] w fun e w' => e = .returned (.bool (es.any del)) ∧ Below w.heap.size w w' := by
  have HI := lit66_idx A m c es del y w h hlen hm hF
  have hge := fidx_ge del es
  obtain ⟨q, hq⟩ : ∃ q, fidx del es = q := ⟨_, rfl⟩
  rw [hq] at HI hge
  have HI := Lib.hid HI
  have Hge := Lib.hid hge
  clear h hF hlen hge hq
  go_enter Try.func54, Try.ntmps54
  go_wp2_with fail
  refine HI.out.mono ?_
  rintro e w1 ⟨rfl, hb1⟩
  have B1 := Lib.hid hb1
  clear hb1
  go_wp2_with fail
  go_ret
  exact ⟨ret_bool Hge.out, B1.out⟩
set_option maxRecDepth 100000 in
set_option maxHeartbeats 8000000 in
theorem satisfies_any (c : Nat) (nm : ByteArray) (A : Option Addr) (m d : Nat) (ls : List (Nat × Bool)) (w : World) (h : LitL w A (lc ls)) (hm : ls.length = m) (hl : LowL ls) (hc : c < 18446744073709551616) (hm2 : m ≤ 4611686018427387904) :
    Calls Try.prog 42 #[.int .u64 c, .agg #[.string nm, .slice A m d]] w fun e w' => e = .returned (.bool (ls.any (litB c))) ∧ Below w.heap.size w w' := by
  have k1 := (Below.refl w.heap.size w).alloc (Nat.le_refl _) (.cells #[.int .u64 (c : Nat)] 108)
  have P1 := Cells.new w #[.int .u64 (c : Nat)] 108
  obtain ⟨w1, hw1⟩ : ∃ u, w.alloc (.cells #[.int .u64 (c : Nat)] 108) = u := ⟨_, rfl⟩
  rw [hw1] at k1 P1
  have k2 := (Below.refl w1.heap.size w1).alloc (Nat.le_refl _) (.cells #[.string nm, .slice A m d] 76)
  have P2 := Lib.hid (Cells.new w1 #[.string nm, .slice A m d] 76)
  have P1 := Lib.hid (P1.keep k2)
  have B2 := Lib.hid (below_on k1 k2)
  have HC := Lib.hid (lit66_con A m d ls (litB c) (.pointer (some ⟨w.heap.size, 0, none⟩)) _ (h.keep B2.out) hm hm2 (fun w' e he hb => sat1_any w.heap.size c e.1 e.2 w' (hl e he) hc ((P1.out.keep hb).at_ 0)))
  obtain ⟨q, hq⟩ : ∃ q, ls.any (litB c) = q := ⟨_, rfl⟩
  rw [hq] at HC ⊢
  clear k1 k2 h hm hl hc hq
  go_enter Try.func42, Try.ntmps42
  have g0 := P2.out.at_ 0
  have g1 := P2.out.at_ 1
  simp only [List.getElem?_cons_zero, List.getElem?_cons_succ] at g0 g1
  go_wp2_with fail
  refine HC.out.mono ?_
  rintro e w3 ⟨rfl, hb3⟩
  have B3 := Lib.hid (below_on B2.out hb3)
  clear hb3
  go_wp2_with fail
  go_ret
  exact ⟨rfl, B3.out⟩
/-- Whether a rule is satisfied. -/
def satB (c : Nat) (r : ByteArray × List (Nat × Bool)) : Bool := r.2.any (litB c)
set_option maxRecDepth 100000 in
set_option maxHeartbeats 8000000 in
theorem isa1_any (p c : Nat) (nm : ByteArray) (A : Option Addr) (m d : Nat) (ls : List (Nat × Bool)) (w : World) (h : LitL w A (lc ls)) (hm : ls.length = m) (hl : LowL ls) (hc : c < 18446744073709551616) (hm2 : m ≤ 4611686018427387904) (hp : w.cell? ⟨p, 0, none⟩ = some (.int .u64 (c : Nat))) :
    Calls Try.prog 75 #[.agg #[.string nm, .slice A m d], .pointer (some ⟨p, 0, none⟩)] w fun e w' => e = .returned (.bool (!ls.any (litB c))) ∧ Below w.heap.size w w' := by
  have kv := (Below.refl w.heap.size w).alloc (Nat.le_refl _) (.cells #[.string nm, .slice A m d] 76)
  have hp2 := (kv.cell (p := ⟨p, 0, none⟩) (World.block_lt_of_cell? _ _ hp)).trans hp
  have P0 := Lib.hid (Cells.new w #[.string nm, .slice A m d] 76)
  have HH := satisfies_any c nm A m d ls _ (h.keep kv) hm hl hc hm2
  obtain ⟨q, hq⟩ : ∃ q, ls.any (litB c) = q := ⟨_, rfl⟩
  rw [hq] at HH ⊢
  have HH := Lib.hid HH
  have B1 := Lib.hid kv
  clear hp hc hq h hm hl kv
  go_enter Try.func75, Try.ntmps75
  have g0 := P0.out.at_ 0
  have g1 := P0.out.at_ 1
  simp only [List.getElem?_cons_zero, List.getElem?_cons_succ] at g0 g1
  go_wp2_with fail
  refine HH.out.mono ?_
  rintro e w1 ⟨rfl, hb1⟩
  have B2 := Lib.hid (below_on B1.out hb1)
  clear hb1
  go_wp2_with fail
  go_ret
  exact ⟨rfl, B2.out⟩
set_option maxRecDepth 100000 in
set_option maxHeartbeats 8000000 in
theorem rul75_idx (A : Option Addr) (m c : Nat) (es : List (ByteArray × List (Nat × Bool))) (del : (ByteArray × List (Nat × Bool)) → Bool) (y : Value) (w : World) (h : RuleL w A es) (hlen : es.length = m) (hm : m ≤ 4611686018427387904)
    (hF : ∀ w' e A' d, e ∈ es → Below w.heap.size w w' → LitL w' A' (lc e.2) → Calls Try.prog 75 #[.agg #[.string e.1, .slice A' e.2.length d], y] w' fun r w2 => r = .returned (.bool (del e)) ∧ Below w'.heap.size w' w2) :
    Calls Try.prog 40 #[.slice A m c, .func (.func 75) #[] #[y]] w fun e w' => e = .returned (.int .i64 (fidx del es)) ∧ Below w.heap.size w w' := by
  have E0 := Lib.hid h
  have HF := Lib.hid hF
  have Hlen := Lib.hid hlen
  clear h hF hlen
  go_enter Try.func40, Try.ntmps40
  go_wp2_with fail
  go_loopw [5, 8] (fun _ i wr => ∃ j : Nat, i = .int .i64 (j : Nat) ∧ j ≤ m ∧ (es.take j).any del = false ∧ Below w.heap.size w wr) (fun _ i _ => m - (intOf i).toNat)
  case atStart => exact ⟨0, rfl, Nat.zero_le _, rfl, Below.refl _ _⟩
  case round =>
    obtain ⟨j, rfl, hj, hall, hb⟩ := hrel
    have Hall := Lib.hid hall
    have B6 := Lib.hid hb
    have E6 := Lib.hid (E0.out.keep hb)
    clear hall hb
    obtain ⟨wa, rfl⟩ : ∃ wa : World, wa = wr := ⟨_, rfl⟩
    by_cases hlt : j < m
    · have hlt2 : j < es.length := by rw [Hlen.out]; exact hlt
      obtain ⟨r, b, o, A', d, hx, rfl, _, c0, c1, hl⟩ := E6.out.at_ (k := j) hlt2
      have Hlt := Lib.hid hlt
      have Hx := Lib.hid hx
      have HFx := HF.out wa r A' d (List.mem_of_getElem? hx) B6.out hl
      obtain ⟨bx, hbx⟩ : ∃ bx, del r = bx := ⟨_, rfl⟩
      rw [hbx] at HFx
      try simp only at HFx
      have HFx := Lib.hid HFx
      have Hb := Lib.hid hbx
      clear hx hbx hlt2
      go_wp2_with fail
      refine HFx.out.mono ?_
      rintro e w7 ⟨rfl, hb7⟩
      have B7 := Lib.hid (below_on B6.out hb7)
      clear hb7
      cases bx
      · go_wp2_with fail
        go_roundw
        case rel => exact ⟨j + 1, by go_num, Hlt.out, any_snoc Hx.out Hall.out Hb.out, B7.out⟩
        case measure => simp [intOf]; have := Hlt.out; omega
      · go_wp2_with fail
        go_ret
        exact ⟨ret_int (fidx_hit Hall.out Hx.out Hb.out).symm, B7.out⟩
    · have hjl : es.take j = es := List.take_of_length_le (by rw [Hlen.out]; omega)
      rw [hjl] at Hall
      clear hjl
      go_wp2_with fail
      go_ret
      exact ⟨ret_int (fidx_miss Hall.out).symm, B6.out⟩
set_option maxRecDepth 100000 in
set_option maxHeartbeats 8000000 in
theorem rul75_con (A : Option Addr) (m c : Nat) (es : List (ByteArray × List (Nat × Bool))) (del : (ByteArray × List (Nat × Bool)) → Bool) (y : Value) (w : World) (h : RuleL w A es) (hlen : es.length = m) (hm : m ≤ 4611686018427387904)
    (hF : ∀ w' e A' d, e ∈ es → Below w.heap.size w w' → LitL w' A' (lc e.2) → Calls Try.prog 75 #[.agg #[.string e.1, .slice A' e.2.length d], y] w' fun r w2 => r = .returned (.bool (del e)) ∧ Below w'.heap.size w' w2) :
    Calls Try.prog 74 #[.slice A m c, .func (.func 75) #[] #[y]] w fun e w' => e = .returned (.bool (es.any del)) ∧ Below w.heap.size w w' := by
  have HI := rul75_idx A m c es del y w h hlen hm hF
  have hge := fidx_ge del es
  obtain ⟨q, hq⟩ : ∃ q, fidx del es = q := ⟨_, rfl⟩
  rw [hq] at HI hge
  have HI := Lib.hid HI
  have Hge := Lib.hid hge
  clear h hF hlen hge hq
  go_enter Try.func74, Try.ntmps74
  go_wp2_with fail
  refine HI.out.mono ?_
  rintro e w1 ⟨rfl, hb1⟩
  have B1 := Lib.hid hb1
  clear hb1
  go_wp2_with fail
  go_ret
  exact ⟨ret_bool Hge.out, B1.out⟩
/-- The options of all rules are options, and their lists are no longer than lists are. -/
def LowR (rs : List (ByteArray × List (Nat × Bool))) : Prop := ∀ r ∈ rs, LowL r.2 ∧ r.2.length ≤ 4611686018427387904
set_option maxRecDepth 100000 in
set_option maxHeartbeats 8000000 in
theorem isAllowed_any (c : Nat) (A : Option Addr) (m d : Nat) (rs : List (ByteArray × List (Nat × Bool))) (w : World) (h : RuleL w A rs) (hm : rs.length = m) (hl : LowR rs) (hc : c < 18446744073709551616) (hm2 : m ≤ 4611686018427387904) :
    Calls Try.prog 56 #[.int .u64 c, .slice A m d] w fun e w' => e = .returned (.bool (rs.all (satB c))) ∧ Below w.heap.size w w' := by
  have kv := (Below.refl w.heap.size w).alloc (Nat.le_refl _) (.cells #[.int .u64 (c : Nat)] 108)
  have P0 := Lib.hid (Cells.new w #[.int .u64 (c : Nat)] 108)
  have HH := rul75_con A m d rs (fun r => !satB c r) (.pointer (some ⟨w.heap.size, 0, none⟩)) _ (h.keep kv) hm hm2 (fun w' e A' d' he hb hle => isa1_any w.heap.size c e.1 A' e.2.length d' e.2 w' hle rfl (hl e he).1 hc (hl e he).2 ((P0.out.keep hb).at_ 0))
  have e1 : rs.all (satB c) = !rs.any (fun r => !satB c r) := by rw [List.not_any_eq_all_not]; simp
  rw [e1]
  obtain ⟨q, hq⟩ : ∃ q, rs.any (fun r => !satB c r) = q := ⟨_, rfl⟩
  rw [hq] at HH ⊢
  have HH := Lib.hid HH
  have B1 := Lib.hid kv
  clear hc hq h hm hl kv e1
  go_enter Try.func56, Try.ntmps56
  go_wp2_with fail
  refine HH.out.mono ?_
  rintro e w1 ⟨rfl, hb1⟩
  have B2 := Lib.hid (below_on B1.out hb1)
  clear hb1
  go_wp2_with fail
  go_ret
  exact ⟨rfl, B2.out⟩
end Go.Proofs.Ytmfmpkihmadjmaa
