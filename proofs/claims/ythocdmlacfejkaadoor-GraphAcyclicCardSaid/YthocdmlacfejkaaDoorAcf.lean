/- Lists of edges that are searched: Index, Contains, ContainsFunc; the law's closure. -/
import Derived.StillTailTactics
import Derived.Test.YthocdmlacfejkaaDoorMG
import Derived.Test.YthocdmlacfejkaaDoorLvs
import Derived.Test.YthocdmlacfejkaaDoorTiL
namespace Go.Proofs.YthocdmlacfejkaaDoor
open Go.RowKit
set_option maxRecDepth 100000 in
set_option maxHeartbeats 8000000 in
theorem edA_any (A : Option Addr) (m c : Nat) (es : List (Nat × Nat)) (del : Nat × Nat → Bool) (y : Value) (w : World) (h : EL w A m (cast es)) (hm : m ≤ 4096)
    (hF : ∀ w' e, e ∈ es → Below w.heap.size w w' → Calls Tryd.prog 66 #[.agg #[.int .i64 (e.1 : Nat), .int .i64 (e.2 : Nat)], y] w' fun r w2 => r = .returned (.bool (del e)) ∧ Below w'.heap.size w' w2) :
    Calls Tryd.prog 104 #[.slice A m c, .func (.func 66) #[] #[y]] w (EdxPost es del w) := by
  have hel := h.len
  have E0 := Lib.hid h
  have HF := Lib.hid hF
  clear h hF
  go_enter Tryd.func104, Tryd.ntmps104
  go_wp2_with fail
  go_loopw [8] (fun i wr => ∃ j : Nat, i = .int .i64 (j : Nat) ∧ j ≤ m ∧ (es.take j).any del = false ∧ Below w.heap.size w wr) (fun i _ => m - (intOf i).toNat)
  case atStart => exact ⟨0, rfl, Nat.zero_le _, rfl, Below.refl _ _⟩
  case round =>
    obtain ⟨j, rfl, hj, hall, hb⟩ := hrel
    have Hall := Lib.hid hall
    have B6 := Lib.hid hb
    have E6 := Lib.hid (E0.out.keep hb)
    clear hall hb
    obtain ⟨wa, rfl⟩ : ∃ wa : World, wa = wr := ⟨_, rfl⟩
    by_cases hlt : j < m
    · obtain ⟨e0, b, o, he, rfl, _, c0, c1⟩ := E6.out.at_ hlt
      obtain ⟨x, z, hx, rfl⟩ := cast_at he
      simp only at c0 c1
      have Hlt := Lib.hid hlt
      have Hx := Lib.hid hx
      have HFx := HF.out wa (x, z) (List.mem_of_getElem? hx) B6.out
      obtain ⟨bx, hbx⟩ : ∃ bx, del (x, z) = bx := ⟨_, rfl⟩
      rw [hbx] at HFx
      simp only at HFx
      have HFx := Lib.hid HFx
      have Hb := Lib.hid hbx
      have Hs := Lib.hid (show es.take (j + 1) = es.take j ++ [(x, z)] by rw [List.take_add_one, hx]; rfl)
      clear hx hbx he
      go_wp2_with fail
      refine HFx.out.mono ?_
      rintro e w7 ⟨rfl, hb7⟩
      have B7 := Lib.hid (below_on B6.out hb7)
      clear hb7
      cases bx
      · go_wp2_with fail
        go_roundw
        case rel => exact ⟨j + 1, by go_num, Hlt.out, by rw [Hs.out, List.any_append, Hall.out]; simp [Hb.out], B7.out⟩
        case measure => simp [intOf]; have := Hlt.out; omega
      · go_wp2_with fail
        go_ret
        exact ⟨.inr ⟨j, List.any_eq_true.2 ⟨(x, z), List.mem_of_getElem? Hx.out, Hb.out⟩, rfl⟩, B7.out⟩
    · have hjl : es.take j = es := List.take_of_length_le (by omega)
      rw [hjl] at Hall
      clear hjl
      go_wp2_with fail
      go_ret
      exact ⟨.inl ⟨Hall.out, rfl⟩, B6.out⟩
set_option maxRecDepth 100000 in
set_option maxHeartbeats 8000000 in
theorem conA_any (A : Option Addr) (m c : Nat) (es : List (Nat × Nat)) (del : Nat × Nat → Bool) (y : Value) (w : World) (h : EL w A m (cast es)) (hm : m ≤ 4096)
    (hF : ∀ w' e, e ∈ es → Below w.heap.size w w' → Calls Tryd.prog 66 #[.agg #[.int .i64 (e.1 : Nat), .int .i64 (e.2 : Nat)], y] w' fun r w2 => r = .returned (.bool (del e)) ∧ Below w'.heap.size w' w2) :
    Calls Tryd.prog 65 #[.slice A m c, .func (.func 66) #[] #[y]] w fun e w' => e = .returned (.bool (es.any del)) ∧ Below w.heap.size w w' := by
  have HI := Lib.hid (edA_any A m c es del y w h hm hF)
  clear h hF
  go_enter Tryd.func65, Tryd.ntmps65
  go_wp2_with fail
  refine HI.out.mono ?_
  rintro e w1 ⟨hc, hb1⟩
  have B1 := Lib.hid hb1
  clear hb1
  rcases hc with ⟨ha, rfl⟩ | ⟨k, ha, rfl⟩
  · have Ha := Lib.hid ha
    clear ha
    go_wp2_with fail
    go_ret
    exact ⟨by rw [Ha.out]; rfl, B1.out⟩
  · have Ha := Lib.hid ha
    have t0 : decide ((0 : Int) ≤ (k : Int)) = true := decide_eq_true (by omega)
    clear ha
    go_wp2_with fail
    go_ret
    exact ⟨by rw [Ha.out]; simp, B1.out⟩
theorem idxOf_zs {l : List Nat} {x : Nat} (hx : x ∈ l) : Lib.idxOf (zs l) (x : Int) = (l.idxOf x : Nat) := by
  have hlt := List.idxOf_lt_length_of_mem hx
  have h := Lib.idxOf_hit (zs l) (zs l).length (l.idxOf x) (x : Int) (by rw [zs_len]; exact hlt) (Nat.le_refl _)
    (by unfold zs; rw [List.getD_eq_getElem?_getD, List.getElem?_map, List.getElem?_eq_getElem hlt, List.getElem_idxOf hlt]; rfl)
    (fun j hj => by
      have hjl : j < l.length := by omega
      unfold zs
      rw [List.getD_eq_getElem?_getD, List.getElem?_map, List.getElem?_eq_getElem hjl]
      intro e
      have e2 : l[j] = x := Int.ofNat.inj e
      have := List.not_of_lt_findIdx (p := (· == x)) (xs := l) (i := j) hj
      rw [e2] at this
      simp at this)
  rw [List.take_of_length_le (Nat.le_refl _)] at h
  exact h
theorem idxL_any (A : Option Addr) (c : Nat) (l : List Nat) (x : Nat) (w : World) (h : IL w A (zs l)) (hl : l.length ≤ 1000000) (hx : x ∈ l) :
    Calls Tryd.prog 67 #[.slice A l.length c, .int .i64 x] w fun e w' => e = .returned (.int .i64 (l.idxOf x : Nat)) ∧ Below w.heap.size w w' := by
  obtain ⟨b, o, rfl, hc⟩ := h.flat (by rw [zs_len]; exact List.length_pos_of_mem hx)
  refine (Tryd.slices_Index_int b o l.length c (zs l) x w (by rw [zs_len]; exact Nat.le_refl _) (by omega) hc).mono fun e w' ⟨h1, h2⟩ => ⟨?_, by rw [h2]; exact Below.refl _ _⟩
  rw [h1, List.take_of_length_le (by rw [zs_len]; exact Nat.le_refl _), idxOf_zs hx]
theorem IL.take {w : World} {A : Option Addr} {l : List Nat} (h : IL w A (zs l)) (k : Nat) : IL w A (zs (l.take k)) := by
  intro j x hj
  refine h j x ?_
  unfold zs at hj ⊢
  rw [List.map_take] at hj
  rcases Nat.lt_or_ge j k with hk | hk
  · rw [List.getElem?_take_of_lt hk] at hj; exact hj
  · rw [List.getElem?_take_eq_none hk] at hj; cases hj
def EdiPost (es : List (Nat × Nat)) (e0 : Nat × Nat) (w : World) (e : Ending) (w' : World) : Prop :=
  ((es.contains e0 = false ∧ e = .returned (.int .i64 (-1))) ∨ ∃ k : Nat, es.contains e0 = true ∧ e = .returned (.int .i64 (k : Nat))) ∧ Below w.heap.size w w'
theorem con_snoc (l : List (Nat × Nat)) (x e : Nat × Nat) : (l ++ [x]).contains e = (l.contains e || (e == x)) := by
  rw [List.contains_append]
  congr 1
  show (e == x || false) = (e == x)
  exact Bool.or_false _
set_option maxRecDepth 100000 in
set_option maxHeartbeats 8000000 in
theorem edi_any (A : Option Addr) (m c : Nat) (es : List (Nat × Nat)) (a b : Nat) (w : World) (h : EL w A m (cast es)) (hm : m ≤ 4096) :
    Calls Tryd.prog 105 #[.slice A m c, .agg #[.int .i64 a, .int .i64 b]] w (EdiPost es (a, b) w) := by
  have kv := (Below.refl w.heap.size w).alloc (Nat.le_refl _) (.cells #[.int .i64 (a : Nat), .int .i64 (b : Nat)] 32)
  have P0 := Lib.hid (Cells.new w #[.int .i64 (a : Nat), .int .i64 (b : Nat)] 32)
  have hel := h.len
  have E0 := Lib.hid h
  have kv := Lib.hid kv
  clear h
  go_enter Tryd.func105, Tryd.ntmps105
  go_wp2_with fail
  go_loopw [5, 8] (fun _ i wr => ∃ j : Nat, i = .int .i64 (j : Nat) ∧ j ≤ m ∧ (es.take j).contains (a, b) = false ∧ Below w.heap.size w wr ∧ Cells wr w.heap.size ([Value.int .i64 (a : Nat), .int .i64 (b : Nat)])) (fun _ i _ => m - (intOf i).toNat)
  case atStart => exact ⟨0, rfl, Nat.zero_le _, rfl, kv.out, P0.out⟩
  case round =>
    obtain ⟨j, rfl, hj, hall, hb, hP⟩ := hrel
    have Hall := Lib.hid hall
    have B6 := Lib.hid hb
    have P6 := Lib.hid hP
    have E6 := Lib.hid (E0.out.keep hb)
    clear hall hb hP
    obtain ⟨wa, rfl⟩ : ∃ wa : World, wa = wr := ⟨_, rfl⟩
    by_cases hlt : j < m
    · obtain ⟨e0, bb, o, he, rfl, _, c0, c1⟩ := E6.out.at_ hlt
      obtain ⟨x, z, hx, rfl⟩ := cast_at he
      simp only at c0 c1
      have Hlt := Lib.hid hlt
      have Hx := Lib.hid hx
      have Hs := Lib.hid (show es.take (j + 1) = es.take j ++ [(x, z)] by rw [List.take_add_one, hx]; rfl)
      have g0 := P6.out.at_ 0
      have g1 := P6.out.at_ 1
      simp only [List.getElem?_cons_zero, List.getElem?_cons_succ] at g0 g1
      clear he
      by_cases h1 : a = x
      · subst h1
        have t0 : ((a : Int) == (a : Int)) = true := by simp
        by_cases h2 : b = z
        · subst h2
          have t1 : ((b : Int) == (b : Int)) = true := by simp
          go_wp2_with fail
          go_still_tail 5, (by kernel_rfl)
          change wpList _ _ _ _ _ wa.drew
          go_wp2_with fail
          go_ret
          exact ⟨.inr ⟨j, by rw [List.contains_iff_mem]; exact List.mem_of_getElem? Hx.out, rfl⟩, B6.out.drew⟩
        · have t1 : ((b : Int) == (z : Int)) = false := by simp; omega
          have Hb := Lib.hid (show (((a, b) : Nat × Nat) == (a, z)) = false by simp [h2])
          go_wp2_with fail
          go_still_tail 5, (by kernel_rfl)
          change wpList _ _ _ _ _ wa.drew
          go_wp2_with fail
          go_roundw
          case rel => exact ⟨j + 1, by go_num, Hlt.out, by rw [Hs.out, con_snoc, Hall.out, Hb.out]; rfl, B6.out.drew, P6.out.drew⟩
          case measure => simp [intOf]; have := Hlt.out; omega
      · have t0 : ((a : Int) == (x : Int)) = false := by simp; omega
        have Hb := Lib.hid (show (((a, b) : Nat × Nat) == (x, z)) = false by simp [h1])
        go_wp2_with fail
        go_still_tail 5, (by kernel_rfl)
        change wpList _ _ _ _ _ wa.drew
        go_wp2_with fail
        go_roundw
        case rel => exact ⟨j + 1, by go_num, Hlt.out, by rw [Hs.out, con_snoc, Hall.out, Hb.out]; rfl, B6.out.drew, P6.out.drew⟩
        case measure => simp [intOf]; have := Hlt.out; omega
    · have hjl : es.take j = es := List.take_of_length_le (by omega)
      rw [hjl] at Hall
      clear hjl
      go_wp2_with fail
      go_ret
      exact ⟨.inl ⟨Hall.out, rfl⟩, B6.out⟩
set_option maxRecDepth 100000 in
set_option maxHeartbeats 8000000 in
theorem edc_any (A : Option Addr) (m c : Nat) (es : List (Nat × Nat)) (a b : Nat) (w : World) (h : EL w A m (cast es)) (hm : m ≤ 4096) :
    Calls Tryd.prog 68 #[.slice A m c, .agg #[.int .i64 a, .int .i64 b]] w fun e w' => e = .returned (.bool (es.contains (a, b))) ∧ Below w.heap.size w w' := by
  have kv := (Below.refl w.heap.size w).alloc (Nat.le_refl _) (.cells #[.int .i64 (a : Nat), .int .i64 (b : Nat)] 32)
  have P0 := Lib.hid (Cells.new w #[.int .i64 (a : Nat), .int .i64 (b : Nat)] 32)
  have HI := Lib.hid (edi_any A m c es a b _ (h.keep kv) hm)
  have kv := Lib.hid kv
  clear h
  go_enter Tryd.func68, Tryd.ntmps68
  have g0 := P0.out.at_ 0
  have g1 := P0.out.at_ 1
  simp only [List.getElem?_cons_zero, List.getElem?_cons_succ] at g0 g1
  go_wp2_with fail
  refine HI.out.mono ?_
  rintro e w1 ⟨hc, hb1⟩
  have B1 := Lib.hid (below_on kv.out hb1)
  clear hb1
  rcases hc with ⟨ha, rfl⟩ | ⟨k, ha, rfl⟩
  · have Ha := Lib.hid ha
    clear ha
    go_wp2_with fail
    go_ret
    exact ⟨by rw [Ha.out]; rfl, B1.out⟩
  · have Ha := Lib.hid ha
    have t0 : decide ((0 : Int) ≤ (k : Int)) = true := decide_eq_true (by omega)
    clear ha
    go_wp2_with fail
    go_ret
    exact ⟨by rw [Ha.out]; simp, B1.out⟩
set_option maxRecDepth 100000 in
set_option maxHeartbeats 8000000 in
theorem acy1_any (p : Nat) (A : Option Addr) (c : Nat) (l : List Nat) (x y : Nat) (w : World) (hp : w.cell? ⟨p, 0, none⟩ = some (.slice A l.length c)) (h : IL w A (zs l)) (hl : l.length ≤ 1000000) (hx : x ∈ l) (hy : y ∈ l) (hxy : l.idxOf x < l.idxOf y) :
    Calls Tryd.prog 66 #[.agg #[.int .i64 (x : Nat), .int .i64 (y : Nat)], .pointer (some ⟨p, 0, none⟩)] w fun e w' => e = .returned (.bool false) ∧ Below w.heap.size w w' := by
  have kv := (Below.refl w.heap.size w).alloc (Nat.le_refl _) (.cells #[.int .i64 (x : Nat), .int .i64 (y : Nat)] 32)
  have hp2 := (kv.cell (p := ⟨p, 0, none⟩) (World.block_lt_of_cell? _ _ hp)).trans hp
  have P1 := Lib.hid (Cells.new w #[.int .i64 (x : Nat), .int .i64 (y : Nat)] 32)
  have E1 := Lib.hid (h.keep kv)
  have kv := Lib.hid kv
  have hl2 := Lib.hid hl
  have hx2 := Lib.hid hx
  have hy2 := Lib.hid hy
  have t0 : decide ((l.idxOf y : Int) ≤ (l.idxOf x : Int)) = false := decide_eq_false (by omega)
  have t1 : decide (l.idxOf y ≤ l.idxOf x) = false := decide_eq_false (by omega)
  clear hp h hl hx hy hxy
  go_enter Tryd.func66, Tryd.ntmps66
  obtain ⟨wm, hwm⟩ : ∃ u, w.alloc (.cells #[.int .i64 (x : Nat), .int .i64 (y : Nat)] 32) = u := ⟨_, rfl⟩
  rw [hwm] at P1 E1 kv hp2
  have K1 := Lib.hid (fun w' (h : Below wm.heap.size wm w') => (h.cell (World.block_lt_of_cell? _ _ hp2)).trans hp2)
  clear hp2
  go_upto_region 1 with fail
  try rw [hwm]
  have HS := Lib.hid (fun w' (hb : Below wm.heap.size wm w') => (⟨(P1.out.keep hb).at_ 0, (P1.out.keep hb).at_ 1, (K1.out _ hb)⟩ : w'.cell? ⟨w.heap.size, 0, none⟩ = some (.int .i64 (x : Nat)) ∧ w'.cell? ⟨w.heap.size, 1, none⟩ = some (.int .i64 (y : Nat)) ∧ w'.cell? ⟨p, 0, none⟩ = some (.slice A l.length c)))
  refine Till.begin 9 (fun w' => w'.cell? ⟨w.heap.size, 0, none⟩ = some (.int .i64 (x : Nat)) ∧ w'.cell? ⟨w.heap.size, 1, none⟩ = some (.int .i64 (y : Nat)) ∧ w'.cell? ⟨p, 0, none⟩ = some (.slice A l.length c)) (by kernel_rfl) (HS.out _ (Below.refl _ _).drew) (fun hH => ?_)
  clear hH
  have HB := Lib.hid (Below.refl wm.heap.size wm).drew
  generalize wm.drew = v0 at HB ⊢
  try simp only [List.setIfInBounds_toArray, List.set_cons_zero, List.set_cons_succ]
  refine Till.tk 0 3 4 (.slice A l.length c) (HS.out _ HB.out) ?_
  try simp only [Act.put, List.setIfInBounds_toArray, List.set_cons_zero, List.set_cons_succ]
  refine Till.tk 1 2 5 (.pointer (some ⟨w.heap.size, 0, none⟩)) (HS.out _ HB.out) ?_
  try simp only [Act.put, List.setIfInBounds_toArray, List.set_cons_zero, List.set_cons_succ]
  refine Till.tk 2 3 6 (.int .i64 (x : Nat)) (HS.out _ HB.out) ?_
  try simp only [Act.put, List.setIfInBounds_toArray, List.set_cons_zero, List.set_cons_succ]
  refine Till.tk 4 7 8 (.slice A l.length c) (HS.out _ HB.out) ?_
  try simp only [Act.put, List.setIfInBounds_toArray, List.set_cons_zero, List.set_cons_succ]
  refine Till.tk 5 6 9 (.pointer (some ⟨w.heap.size, 1, none⟩)) (HS.out _ HB.out) ?_
  try simp only [Act.put, List.setIfInBounds_toArray, List.set_cons_zero, List.set_cons_succ]
  refine Till.tk 6 7 10 (.int .i64 (y : Nat)) (HS.out _ HB.out) ?_
  try simp only [Act.put, List.setIfInBounds_toArray, List.set_cons_zero, List.set_cons_succ]
  refine Till.one (i := 3) (by kernel_rfl) rfl (fun K hK => ?_)
  go_simp
  refine (idxL_any A c l x v0 (E1.out.keep HB.out) hl2.out hx2.out).mono ?_
  rintro e v1 ⟨rfl, g⟩
  replace HB := Lib.hid (below_on HB.out g)
  clear g
  go_wp2_with fail
  refine hK.out _ _ (fun _ => HS.out _ HB.out) ?_
  clear hK K
  try simp only [List.setIfInBounds_toArray, List.set_cons_zero, List.set_cons_succ]
  refine Till.one (i := 7) (by kernel_rfl) rfl (fun K hK => ?_)
  go_simp
  refine (idxL_any A c l y v1 (E1.out.keep HB.out) hl2.out hy2.out).mono ?_
  rintro e v2 ⟨rfl, g⟩
  replace HB := Lib.hid (below_on HB.out g)
  clear g
  go_wp2_with fail
  refine hK.out _ _ (fun _ => HS.out _ HB.out) ?_
  clear hK K
  try simp only [List.setIfInBounds_toArray, List.set_cons_zero, List.set_cons_succ]
  refine Till.one (i := 8) (by kernel_rfl) rfl (fun K hK => ?_)
  go_simp
  refine hK.out _ _ (fun _ => HS.out _ HB.out) ?_
  clear hK K
  try simp only [List.setIfInBounds_toArray, List.set_cons_zero, List.set_cons_succ]
  refine Till.one (i := 9) (by kernel_rfl) rfl (fun K hK => ?_)
  go_simp
  refine hK.out _ _ (fun h => absurd h (by simp)) ?_
  clear hK K
  try simp only [List.setIfInBounds_toArray, List.set_cons_zero, List.set_cons_succ]
  refine Till.done (by kernel_rfl) ?_ _
  go_wp2_with fail
  go_ret
  exact ⟨rfl, below_on kv.out HB.out⟩
end Go.Proofs.YthocdmlacfejkaaDoor
