/- Whether lists contain what others do. -/
import Derived.Test.YthocdmlacfejkaaDoorMH
namespace Go.Proofs.YthocdmlacfejkaaDoor
open Go.RowKit
theorem containsI_any (A : Option Addr) (c : Nat) (l : List Nat) (x : Nat) (w : World) (h : IL w A (zs l)) (hl : l.length ≤ 1000000) :
    Calls Tryd.prog 60 #[.slice A l.length c, .int .i64 x] w fun e w' => e = .returned (.bool (l.contains x)) ∧ Below w.heap.size w w' := by
  have e1 : (zs l).contains (x : Int) = l.contains x := by
    rw [Bool.eq_iff_iff, List.contains_iff_mem, List.contains_iff_mem]
    unfold zs
    rw [List.mem_map]
    constructor
    · rintro ⟨y, hy, e⟩
      have : y = x := Int.ofNat.inj e
      rw [← this]; exact hy
    · intro hx
      exact ⟨x, hx, rfl⟩
  by_cases h0 : l = []
  · subst h0
    exact (Tryd.slices_Contains_int_empty A c x w).mono fun e w' ⟨h1, h2⟩ => ⟨h1, by rw [h2]; exact Below.refl _ _⟩
  · obtain ⟨b, o, rfl, hc⟩ := h.flat (by rw [zs_len]; exact List.length_pos_iff.2 h0)
    refine (Tryd.slices_Contains_int b o l.length c (zs l) x w (by rw [zs_len]; exact Nat.le_refl _) (by omega) hc).mono fun e w' ⟨h1, h2⟩ => ⟨?_, by rw [h2]; exact Below.refl _ _⟩
    rw [h1, List.take_of_length_le (by rw [zs_len]; exact Nat.le_refl _), e1]
set_option maxRecDepth 100000 in
set_option maxHeartbeats 8000000 in
theorem leaf11_any (p : Nat) (A : Option Addr) (c : Nat) (l : List Nat) (v : Nat) (w : World) (hp : w.cell? ⟨p, 0, none⟩ = some (.slice A l.length c)) (h : IL w A (zs l)) (hl : l.length ≤ 1000000) :
    Calls Tryd.prog 64 #[.int .i64 v, .pointer (some ⟨p, 0, none⟩)] w fun e w' => e = .returned (.bool (!l.contains v)) ∧ Below w.heap.size w w' := by
  have HC := containsI_any A c l v w h hl
  obtain ⟨bb, hbb⟩ : ∃ bb, l.contains v = bb := ⟨_, rfl⟩
  rw [hbb] at HC ⊢
  have HC := Lib.hid HC
  clear h hbb
  go_enter Tryd.func64, Tryd.ntmps64
  go_wp2_with fail
  refine HC.out.mono ?_
  rintro e w1 ⟨rfl, hb1⟩
  have B1 := Lib.hid hb1
  clear hb1
  go_wp2_with fail
  go_ret
  exact ⟨rfl, B1.out⟩
def IdxInt (l : List Nat) (del : Nat → Bool) (w : World) (e : Ending) (w' : World) : Prop :=
  ((l.any del = false ∧ e = .returned (.int .i64 (-1))) ∨ ∃ k : Nat, l.any del = true ∧ e = .returned (.int .i64 (k : Nat))) ∧ Below w.heap.size w w'
set_option maxRecDepth 100000 in
set_option maxHeartbeats 8000000 in
theorem idxInt_any (A : Option Addr) (c : Nat) (l : List Nat) (del : Nat → Bool) (y : Value) (w : World) (h : IL w A (zs l)) (hm : l.length ≤ 1000000)
    (hF : ∀ w' e, e ∈ l → Below w.heap.size w w' → Calls Tryd.prog 64 #[.int .i64 (e : Nat), y] w' fun r w2 => r = .returned (.bool (del e)) ∧ Below w'.heap.size w' w2) :
    Calls Tryd.prog 103 #[.slice A l.length c, .func (.func 64) #[] #[y]] w (IdxInt l del w) := by
  have E0 := Lib.hid h
  have HF := Lib.hid hF
  clear h hF
  go_enter Tryd.func103, Tryd.ntmps103
  go_wp2_with fail
  go_loopw [5, 8] (fun _ i wr => ∃ j : Nat, i = .int .i64 (j : Nat) ∧ j ≤ l.length ∧ (l.take j).any del = false ∧ Below w.heap.size w wr) (fun _ i _ => l.length - (intOf i).toNat)
  case atStart => exact ⟨0, rfl, Nat.zero_le _, rfl, Below.refl _ _⟩
  case round =>
    obtain ⟨j, rfl, hj, hall, hb⟩ := hrel
    have Hall := Lib.hid hall
    have B6 := Lib.hid hb
    have E6 := Lib.hid (E0.out.keep hb)
    clear hall hb
    obtain ⟨wa, rfl⟩ : ∃ wa : World, wa = wr := ⟨_, rfl⟩
    by_cases hlt : j < l.length
    · obtain ⟨x, b, o, hx, rfl, _, hcell⟩ := E6.out.at_ (k := j) (by rw [zs_len]; exact hlt)
      obtain ⟨z, hz, rfl⟩ := zs_at hx
      have Hx := Lib.hid hz
      have HFx := HF.out wa z (List.mem_of_getElem? hz) B6.out
      obtain ⟨bx, hbx⟩ : ∃ bx, del z = bx := ⟨_, rfl⟩
      rw [hbx] at HFx
      have HFx := Lib.hid HFx
      have Hb := Lib.hid hbx
      have Hs := Lib.hid (show l.take (j + 1) = l.take j ++ [z] by rw [List.take_add_one, hz]; rfl)
      have Hlt := Lib.hid hlt
      clear hx hz hbx
      go_wp2_with fail
      refine HFx.out.mono ?_
      rintro e w7 ⟨rfl, hb7⟩
      have B7 := Lib.hid (below_on B6.out hb7)
      clear hb7
      cases bx
      · go_wp2_with fail
        go_roundw
        case rel => exact ⟨j + 1, by go_num, Hlt.out, by rw [Hs.out, List.any_append, Hall.out]; simp [Hb.out], B7.out⟩
        case measure => simp [intOf]; have := Hlt.out; omega
      · go_wp2_with fail
        go_ret
        exact ⟨.inr ⟨j, List.any_eq_true.2 ⟨z, List.mem_of_getElem? Hx.out, Hb.out⟩, rfl⟩, B7.out⟩
    · have hjl : l.take j = l := List.take_of_length_le (by omega)
      rw [hjl] at Hall
      clear hjl
      go_wp2_with fail
      go_ret
      exact ⟨.inl ⟨Hall.out, rfl⟩, B6.out⟩
set_option maxRecDepth 100000 in
set_option maxHeartbeats 8000000 in
theorem conInt_any (A : Option Addr) (c : Nat) (l : List Nat) (del : Nat → Bool) (y : Value) (w : World) (h : IL w A (zs l)) (hm : l.length ≤ 1000000)
    (hF : ∀ w' e, e ∈ l → Below w.heap.size w w' → Calls Tryd.prog 64 #[.int .i64 (e : Nat), y] w' fun r w2 => r = .returned (.bool (del e)) ∧ Below w'.heap.size w' w2) :
    Calls Tryd.prog 63 #[.slice A l.length c, .func (.func 64) #[] #[y]] w fun e w' => e = .returned (.bool (l.any del)) ∧ Below w.heap.size w w' := by
  have HI := Lib.hid (idxInt_any A c l del y w h hm hF)
  clear h hF
  go_enter Tryd.func63, Tryd.ntmps63
  go_wp2_with fail
  refine HI.out.mono ?_
  rintro e w1 ⟨hc, hb1⟩
  have B1 := Lib.hid hb1
  clear hb1
  rcases hc with ⟨ha, rfl⟩ | ⟨k, ha, rfl⟩
  · have Ha := Lib.hid ha
    clear ha
    go_wp2_with fail
    go_ret
    exact ⟨by rw [Ha.out]; rfl, B1.out⟩
  · have Ha := Lib.hid ha
    have t0 : decide ((0 : Int) ≤ (k : Int)) = true := decide_eq_true (by omega)
    clear ha
    go_wp2_with fail
    go_ret
    exact ⟨by rw [Ha.out]; simp, B1.out⟩
/-- Whether a list is not empty, and lies in another one. -/
def insL (all s : List Nat) : Bool := decide (0 < s.length) && !s.any fun v => !all.contains v
set_option maxRecDepth 100000 in
set_option maxHeartbeats 8000000 in
theorem leaf1_any (p : Nat) (A : Option Addr) (c : Nat) (l : List Nat) (S : Option Addr) (d : Nat) (s : List Nat) (w : World) (hp : w.cell? ⟨p, 0, none⟩ = some (.slice A l.length c)) (h : IL w A (zs l)) (hl : l.length ≤ 1000000) (hs : IL w S (zs s)) (hsl : s.length ≤ 1000000) :
    Calls Tryd.prog 62 #[.slice S s.length d, .pointer (some ⟨p, 0, none⟩)] w fun e w' => e = .returned (.bool (insL l s)) ∧ Below w.heap.size w w' := by
  have hpl : p < w.heap.size := World.block_lt_of_cell? w ⟨p, 0, none⟩ hp
  have HC := conInt_any S d s (fun v => !l.contains v) (.pointer (some ⟨p, 0, none⟩)) w hs hsl (fun w' e _ hb => leaf11_any p A c l e w' ((hb.cell (p := ⟨p, 0, none⟩) hpl).trans hp) (h.keep hb) hl)
  obtain ⟨bb, hbb⟩ : ∃ bb, (s.any fun v => !l.contains v) = bb := ⟨_, rfl⟩
  have Hi := Lib.hid (show insL l s = (decide (0 < s.length) && !bb) by unfold insL; rw [hbb])
  rw [hbb] at HC
  have HC := Lib.hid HC
  clear h hs hp hbb
  rw [Hi.out]
  by_cases h0 : 0 < s.length
  · have t0 : decide ((0 : Int) < (s.length : Int)) = true := decide_eq_true (by omega)
    have t1 : decide (0 < s.length) = true := decide_eq_true h0
    rw [t1]
    clear t1
    go_enter Tryd.func62, Tryd.ntmps62
    go_wp2_with fail
    refine HC.out.mono ?_
    rintro e w1 ⟨rfl, hb1⟩
    have B1 := Lib.hid hb1
    clear hb1
    go_wp2_with fail
    go_ret
    exact ⟨by simp, B1.out⟩
  · have t0 : decide ((0 : Int) < (s.length : Int)) = false := decide_eq_false (by omega)
    have t1 : decide (0 < s.length) = false := decide_eq_false h0
    rw [t1]
    clear t1
    go_enter Tryd.func62, Tryd.ntmps62
    go_wp2_with fail
    go_ret
    exact ⟨rfl, Below.refl _ _⟩
def IdxLst (l : List (List Nat)) (del : List Nat → Bool) (w : World) (e : Ending) (w' : World) : Prop :=
  ((l.any del = false ∧ e = .returned (.int .i64 (-1))) ∨ ∃ k : Nat, l.any del = true ∧ e = .returned (.int .i64 (k : Nat))) ∧ Below w.heap.size w w'
set_option maxRecDepth 100000 in
set_option maxHeartbeats 8000000 in
theorem idxLst_any (B : Nat) (A : Option Addr) (c : Nat) (l : List (List Nat)) (del : List Nat → Bool) (y : Value) (w : World) (h : LL B w A l) (hm : l.length ≤ 1000000)
    (hF : ∀ w' e Ae ce, e ∈ l → IL w' Ae (zs e) → Below w.heap.size w w' → Calls Tryd.prog 62 #[.slice Ae e.length ce, y] w' fun r w2 => r = .returned (.bool (del e)) ∧ Below w'.heap.size w' w2) :
    Calls Tryd.prog 102 #[.slice A l.length c, .func (.func 62) #[] #[y]] w (IdxLst l del w) := by
  have E0 := Lib.hid h
  have HF := Lib.hid hF
  clear h hF
  go_enter Tryd.func102, Tryd.ntmps102
  go_wp2_with fail
  go_loopw [5, 8] (fun _ i wr => ∃ j : Nat, i = .int .i64 (j : Nat) ∧ j ≤ l.length ∧ (l.take j).any del = false ∧ Below w.heap.size w wr) (fun _ i _ => l.length - (intOf i).toNat)
  case atStart => exact ⟨0, rfl, Nat.zero_le _, rfl, Below.refl _ _⟩
  case round =>
    obtain ⟨j, rfl, hj, hall, hb⟩ := hrel
    have Hall := Lib.hid hall
    have B6 := Lib.hid hb
    have E6 := Lib.hid (E0.out.keep hb)
    clear hall hb
    obtain ⟨wa, rfl⟩ : ∃ wa : World, wa = wr := ⟨_, rfl⟩
    by_cases hlt : j < l.length
    · obtain ⟨z, b, o, Az, cz, hz, rfl, _, _, hcell, hnz⟩ := E6.out.at_ (k := j) hlt
      have Hx := Lib.hid hz
      have HFx := HF.out wa z Az cz (List.mem_of_getElem? hz) hnz.il B6.out
      obtain ⟨bx, hbx⟩ : ∃ bx, del z = bx := ⟨_, rfl⟩
      rw [hbx] at HFx
      have HFx := Lib.hid HFx
      have Hb := Lib.hid hbx
      have Hs := Lib.hid (show l.take (j + 1) = l.take j ++ [z] by rw [List.take_add_one, hz]; rfl)
      have Hlt := Lib.hid hlt
      clear hz hbx hnz
      go_wp2_with fail
      refine HFx.out.mono ?_
      rintro e w7 ⟨rfl, hb7⟩
      have B7 := Lib.hid (below_on B6.out hb7)
      clear hb7
      cases bx
      · go_wp2_with fail
        go_roundw
        case rel => exact ⟨j + 1, by go_num, Hlt.out, by rw [Hs.out, List.any_append, Hall.out]; simp [Hb.out], B7.out⟩
        case measure => simp [intOf]; have := Hlt.out; omega
      · go_wp2_with fail
        go_ret
        exact ⟨.inr ⟨j, List.any_eq_true.2 ⟨z, List.mem_of_getElem? Hx.out, Hb.out⟩, rfl⟩, B7.out⟩
    · have hjl : l.take j = l := List.take_of_length_le (by omega)
      rw [hjl] at Hall
      clear hjl
      go_wp2_with fail
      go_ret
      exact ⟨.inl ⟨Hall.out, rfl⟩, B6.out⟩
set_option maxRecDepth 100000 in
set_option maxHeartbeats 8000000 in
theorem conLst_any (B : Nat) (A : Option Addr) (c : Nat) (l : List (List Nat)) (del : List Nat → Bool) (y : Value) (w : World) (h : LL B w A l) (hm : l.length ≤ 1000000)
    (hF : ∀ w' e Ae ce, e ∈ l → IL w' Ae (zs e) → Below w.heap.size w w' → Calls Tryd.prog 62 #[.slice Ae e.length ce, y] w' fun r w2 => r = .returned (.bool (del e)) ∧ Below w'.heap.size w' w2) :
    Calls Tryd.prog 61 #[.slice A l.length c, .func (.func 62) #[] #[y]] w fun e w' => e = .returned (.bool (l.any del)) ∧ Below w.heap.size w w' := by
  have HI := Lib.hid (idxLst_any B A c l del y w h hm hF)
  clear h hF
  go_enter Tryd.func61, Tryd.ntmps61
  go_wp2_with fail
  refine HI.out.mono ?_
  rintro e w1 ⟨hc, hb1⟩
  have B1 := Lib.hid hb1
  clear hb1
  rcases hc with ⟨ha, rfl⟩ | ⟨k, ha, rfl⟩
  · have Ha := Lib.hid ha
    clear ha
    go_wp2_with fail
    go_ret
    exact ⟨by rw [Ha.out]; rfl, B1.out⟩
  · have Ha := Lib.hid ha
    have t0 : decide ((0 : Int) ≤ (k : Int)) = true := decide_eq_true (by omega)
    clear ha
    go_wp2_with fail
    go_ret
    exact ⟨by rw [Ha.out]; simp, B1.out⟩
end Go.Proofs.YthocdmlacfejkaaDoor
