/- Liaisons: groups: the third closure, a group inside another one, a group checked. -/
import Derived.Test.YtdpfoegcmngdfaaDoorLu
namespace Go.Proofs.YtdpfoegcmngdfaaDoor
open Go.RowKit
def crossB (a s : Nat) : Bool := a &&& s != 0 && a &&& s != s && a &&& s != a
theorem and_bound {a s : Nat} (h : s < 18446744073709551616) : a &&& s < 18446744073709551616 := Nat.lt_of_le_of_lt Nat.and_le_right h
theorem int_bne (a b : Nat) : (((a : Nat) : Int) != ((b : Nat) : Int)) = (a != b) := by
  rw [Bool.eq_iff_iff, bne_iff_ne, bne_iff_ne]; omega
theorem int_beq (a b : Nat) : (((a : Nat) : Int) == ((b : Nat) : Int)) = (a == b) := by
  rw [Bool.eq_iff_iff, beq_iff_eq, beq_iff_eq]; omega
set_option maxRecDepth 100000 in
set_option maxHeartbeats 4000000 in
theorem gc3_any (p s : Nat) (nm : ByteArray) (P : Option Addr) (c : Nat) (l : List Int) (w : World) (hp : w.cell? ⟨p, 0, none⟩ = some (.int .u64 (s : Nat))) (h : IL w P l) (hl : InG l) (hs : s < 18446744073709551616) :
    Calls Tryd.prog 82 #[.agg #[.string nm, .slice P l.length c], .pointer (some ⟨p, 0, none⟩)] w fun e w' => e = .returned (.bool (crossB (ofI l) s)) ∧ Below w.heap.size w w' := by
  have kv := (Below.refl w.heap.size w).alloc (Nat.le_refl _) (.cells #[.string nm, .slice P l.length c] 68)
  have hp2 := (kv.cell (p := ⟨p, 0, none⟩) (World.block_lt_of_cell? _ _ hp)).trans hp
  have P0 := Cells.new w #[.string nm, .slice P l.length c] 68
  have hpl := Nat.lt_of_lt_of_le (World.block_lt_of_cell? _ _ hp) kv.size
  have g1 := P0.at_ 1
  simp only [List.getElem?_cons_zero, List.getElem?_cons_succ] at g1
  have hz : w.heap.size < (w.alloc (.cells #[.string nm, .slice P l.length c] 68)).heap.size := by simp
  have hil := h.keep kv
  obtain ⟨wm, hwm⟩ : ∃ u, w.alloc (.cells #[.string nm, .slice P l.length c] 68) = u := ⟨_, rfl⟩
  have Hwm := Lib.hid hwm
  rw [hwm] at g1 hp2 hpl hz hil kv
  have HO := Lib.hid (fun w' (hb : Below wm.heap.size wm w') => ofI_b P c l w' (hil.keep hb) hl)
  have HS := Lib.hid (fun w' (hb : Below wm.heap.size wm w') => (⟨(hb.cell (p := ⟨w.heap.size, 1, none⟩) hz).trans g1, (hb.cell (p := ⟨p, 0, none⟩) hpl).trans hp2⟩ : w'.cell? ⟨w.heap.size, 1, none⟩ = some (.slice P l.length c) ∧ w'.cell? ⟨p, 0, none⟩ = some (.int .u64 (s : Nat))))
  have kv := Lib.hid kv
  have Hcr := Lib.hid (show crossB (ofI l) s = ((ofI l &&& s) != 0 && (ofI l &&& s) != s && (ofI l &&& s) != ofI l) from rfl)
  have e1 : bits .and .u64 ((ofI l : Nat) : Int) (s : Int) = ((ofI l &&& s : Nat) : Int) := bits_and_u64_nat _ _ (ofI_lt hl) hs
  have b1 : (((ofI l &&& s : Nat) : Int) != 0) = ((ofI l &&& s) != 0) := int_bne (ofI l &&& s) 0
  have b2 := int_bne (ofI l &&& s) s
  have b3 := int_bne (ofI l &&& s) (ofI l)
  obtain ⟨x, hx⟩ : ∃ x, ofI l &&& s = x := ⟨_, rfl⟩
  rw [hx] at e1 b1 b2 b3 Hcr
  obtain ⟨q1, hq1⟩ : ∃ q, (x != 0) = q := ⟨_, rfl⟩
  obtain ⟨q2, hq2⟩ : ∃ q, (x != s) = q := ⟨_, rfl⟩
  obtain ⟨q3, hq3⟩ : ∃ q, (x != ofI l) = q := ⟨_, rfl⟩
  rw [hq1] at b1 Hcr
  rw [hq2] at b2 Hcr
  rw [hq3] at b3 Hcr
  obtain ⟨o, ho⟩ : ∃ o, ofI l = o := ⟨_, rfl⟩
  rw [ho] at HO e1 b3 Hcr ⊢
  have E1 := Lib.hid e1
  have Hb1 := Lib.hid b1
  have Hb2 := Lib.hid b2
  have Hb3 := Lib.hid b3
  clear hp h hl hp2 P0 hpl g1 hz hil hwm hs hx hq1 hq2 hq3 ho e1 b1 b2 b3
  go_enter Tryd.func82, Tryd.ntmps82
  go_upto_region 1 with fail
  simp only [Hwm.out]
  refine Till.begin 5 (fun w' => w'.cell? ⟨w.heap.size, 1, none⟩ = some (.slice P l.length c) ∧ w'.cell? ⟨p, 0, none⟩ = some (.int .u64 (s : Nat))) (by kernel_rfl) (HS.out _ (Below.refl _ _).drew) (fun hH => ?_)
  clear hH
  have HB := Lib.hid (Below.refl wm.heap.size wm).drew
  generalize wm.drew = v0 at HB ⊢
  try simp only [List.setIfInBounds_toArray, List.set_cons_zero, List.set_cons_succ]
  refine Till.tk 0 1 5 (.pointer (some ⟨w.heap.size, 1, none⟩)) (HS.out _ HB.out) ?_
  try simp only [Act.put, List.setIfInBounds_toArray, List.set_cons_zero, List.set_cons_succ]
  refine Till.tk 1 2 6 (.slice P l.length c) (HS.out _ HB.out) ?_
  try simp only [Act.put, List.setIfInBounds_toArray, List.set_cons_zero, List.set_cons_succ]
  refine Till.tk 3 4 8 (.int .u64 (s : Nat)) (HS.out _ HB.out) ?_
  try simp only [Act.put, List.setIfInBounds_toArray, List.set_cons_zero, List.set_cons_succ]
  refine Till.one (i := 2) (by kernel_rfl) rfl (fun K hK => ?_)
  go_simp
  refine (HO.out _ HB.out).mono ?_
  rintro e v1 ⟨rfl, g⟩
  replace HB := Lib.hid (below_on HB.out g)
  clear g
  go_wp2_with fail
  refine hK.out _ _ (fun _ => HS.out _ HB.out) ?_
  clear hK K
  try simp only [List.setIfInBounds_toArray, List.set_cons_zero, List.set_cons_succ]
  refine Till.one (i := 4) (by kernel_rfl) rfl (fun K hK => ?_)
  go_simp
  refine hK.out _ _ (fun _ => HS.out _ HB.out) ?_
  clear hK K
  try simp only [List.setIfInBounds_toArray, List.set_cons_zero, List.set_cons_succ]
  refine Till.one (i := 5) (by kernel_rfl) rfl (fun K hK => ?_)
  go_simp
  refine hK.out _ _ (fun h => absurd h (by simp)) ?_
  clear hK K
  try simp only [List.setIfInBounds_toArray, List.set_cons_zero, List.set_cons_succ]
  refine Till.done (by kernel_rfl) ?_ _
  have B7 := Lib.hid (below_on kv.out HB.out)
  have s1 := (HS.out _ HB.out).1
  have s2 := (HS.out _ HB.out).2
  have e1 := E1.out
  have t1 := Hb1.out
  have t2 := Hb2.out
  have t3 := Hb3.out
  have HO2 := Lib.hid (HO.out _ HB.out)
  cases q1
  · go_wp2_with fail
    go_ret
    exact ⟨ret_bool (by rw [Hcr.out]; rfl), B7.out⟩
  · cases q2
    · go_wp2_with fail
      go_ret
      exact ⟨ret_bool (by rw [Hcr.out]; rfl), B7.out⟩
    · go_wp2_with fail
      refine HO2.out.mono ?_
      rintro e w9 ⟨rfl, g⟩
      have B8 := Lib.hid (below_on B7.out g)
      clear g
      cases q3
      all_goals
        go_wp2_with fail
        go_ret
        exact ⟨ret_bool (by rw [Hcr.out]; rfl), B8.out⟩
def insB (a b : Nat) : Bool := a != b && diff a b == 0
set_option maxRecDepth 100000 in
set_option maxHeartbeats 4000000 in
theorem inside_any (nm nn : ByteArray) (P Q : Option Addr) (c d : Nat) (l m : List Int) (w : World) (h : IL w P l) (hl : InG l) (h' : IL w Q m) (hm : InG m) :
    Calls Tryd.prog 59 #[.agg #[.string nm, .slice P l.length c], .agg #[.string nn, .slice Q m.length d]] w fun e w' => e = .returned (.bool (insB (ofI l) (ofI m))) ∧ Below w.heap.size w w' := by
  have k1 := (Below.refl w.heap.size w).alloc (Nat.le_refl _) (.cells #[.string nm, .slice P l.length c] 68)
  have P0 := Cells.new w #[.string nm, .slice P l.length c] 68
  have P1 := Cells.new (w.alloc (.cells #[.string nm, .slice P l.length c] 68)) #[.string nn, .slice Q m.length d] 68
  have k2 := (Below.refl (w.alloc (.cells #[.string nm, .slice P l.length c] 68)).heap.size _).alloc (Nat.le_refl _) (.cells #[.string nn, .slice Q m.length d] 68)
  have kv := below_on k1 k2
  have g0 := (P0.keep k2).at_ 1
  have g1 := P1.at_ 1
  simp only [List.getElem?_cons_zero, List.getElem?_cons_succ] at g0 g1
  have hsz1 : (w.alloc (.cells #[.string nm, .slice P l.length c] 68)).heap.size = w.heap.size + 1 := by simp
  rw [hsz1] at g1
  have hil := h.keep kv
  have hil' := h'.keep kv
  obtain ⟨wm, hwm⟩ : ∃ u, (w.alloc (.cells #[.string nm, .slice P l.length c] 68)).alloc (.cells #[.string nn, .slice Q m.length d] 68) = u := ⟨_, rfl⟩
  have hz : w.heap.size + 1 < wm.heap.size := by rw [← hwm]; simp
  have Hwm := Lib.hid hwm
  rw [hwm] at g0 g1 hil hil' kv
  have HO := fun w' (hb : Below wm.heap.size wm w') => ofI_b P c l w' (hil.keep hb) hl
  have HP := fun w' (hb : Below wm.heap.size wm w') => ofI_b Q d m w' (hil'.keep hb) hm
  have HS := Lib.hid (fun w' (hb : Below wm.heap.size wm w') => (⟨(hb.cell (p := ⟨w.heap.size, 1, none⟩) (Nat.lt_of_succ_lt hz)).trans g0, (hb.cell (p := ⟨w.heap.size + 1, 1, none⟩) hz).trans g1⟩ : w'.cell? ⟨w.heap.size, 1, none⟩ = some (.slice P l.length c) ∧ w'.cell? ⟨w.heap.size + 1, 1, none⟩ = some (.slice Q m.length d)))
  have e1 : bits .andNot .u64 ((ofI l : Nat) : Int) ((ofI m : Nat) : Int) = ((diff (ofI l) (ofI m) : Nat) : Int) := bits_diff _ _ (ofI_lt hl) (ofI_lt hm)
  have b1 := int_bne (ofI l) (ofI m)
  have b2 : (((diff (ofI l) (ofI m) : Nat) : Int) == 0) = (diff (ofI l) (ofI m) == 0) := int_beq (diff (ofI l) (ofI m)) 0
  unfold insB
  obtain ⟨x, hx⟩ : ∃ x, ofI l = x := ⟨_, rfl⟩
  obtain ⟨y, hy⟩ : ∃ x, ofI m = x := ⟨_, rfl⟩
  rw [hx] at HO e1 b1 b2
  rw [hy] at HP e1 b1 b2
  rw [hx, hy]
  obtain ⟨z, hz2⟩ : ∃ z, diff x y = z := ⟨_, rfl⟩
  rw [hz2] at e1 b2 ⊢
  obtain ⟨q1, hq1⟩ : ∃ q, (x != y) = q := ⟨_, rfl⟩
  obtain ⟨q2, hq2⟩ : ∃ q, (z == 0) = q := ⟨_, rfl⟩
  rw [hq1] at b1 ⊢
  rw [hq2] at b2 ⊢
  have E1 := Lib.hid e1
  have Hb1 := Lib.hid b1
  have Hb2 := Lib.hid b2
  have HO := Lib.hid HO
  have HP := Lib.hid HP
  have kv := Lib.hid kv
  clear h hl h' hm k1 P0 P1 k2 hsz1 g0 g1 hil hil' hwm hz hx hy hz2 hq1 hq2 e1 b1 b2
  go_enter Tryd.func59, Tryd.ntmps59
  go_upto_region 1 with fail
  simp only [Hwm.out]
  refine Till.begin 7 (fun w' => w'.cell? ⟨w.heap.size, 1, none⟩ = some (.slice P l.length c) ∧ w'.cell? ⟨w.heap.size + 1, 1, none⟩ = some (.slice Q m.length d)) (by kernel_rfl) (HS.out _ (Below.refl _ _).drew) (fun hH => ?_)
  clear hH
  have HB := Lib.hid (Below.refl wm.heap.size wm).drew
  generalize wm.drew = v0 at HB ⊢
  try simp only [List.setIfInBounds_toArray, List.set_cons_zero, List.set_cons_succ]
  refine Till.tk 0 1 7 (.pointer (some ⟨w.heap.size, 1, none⟩)) (HS.out _ HB.out) ?_
  try simp only [Act.put, List.setIfInBounds_toArray, List.set_cons_zero, List.set_cons_succ]
  refine Till.tk 1 2 8 (.slice P l.length c) (HS.out _ HB.out) ?_
  try simp only [Act.put, List.setIfInBounds_toArray, List.set_cons_zero, List.set_cons_succ]
  refine Till.tk 3 4 10 (.pointer (some ⟨w.heap.size + 1, 1, none⟩)) (HS.out _ HB.out) ?_
  try simp only [Act.put, List.setIfInBounds_toArray, List.set_cons_zero, List.set_cons_succ]
  refine Till.tk 4 5 11 (.slice Q m.length d) (HS.out _ HB.out) ?_
  try simp only [Act.put, List.setIfInBounds_toArray, List.set_cons_zero, List.set_cons_succ]
  refine Till.one (i := 2) (by kernel_rfl) rfl (fun K hK => ?_)
  go_simp
  refine (HO.out _ HB.out).mono ?_
  rintro e v1 ⟨rfl, g⟩
  replace HB := Lib.hid (below_on HB.out g)
  clear g
  go_wp2_with fail
  refine hK.out _ _ (fun _ => HS.out _ HB.out) ?_
  clear hK K
  try simp only [List.setIfInBounds_toArray, List.set_cons_zero, List.set_cons_succ]
  refine Till.one (i := 5) (by kernel_rfl) rfl (fun K hK => ?_)
  go_simp
  refine (HP.out _ HB.out).mono ?_
  rintro e v2 ⟨rfl, g⟩
  replace HB := Lib.hid (below_on HB.out g)
  clear g
  go_wp2_with fail
  refine hK.out _ _ (fun _ => HS.out _ HB.out) ?_
  clear hK K
  try simp only [List.setIfInBounds_toArray, List.set_cons_zero, List.set_cons_succ]
  refine Till.one (i := 6) (by kernel_rfl) rfl (fun K hK => ?_)
  go_simp
  refine hK.out _ _ (fun _ => HS.out _ HB.out) ?_
  clear hK K
  try simp only [List.setIfInBounds_toArray, List.set_cons_zero, List.set_cons_succ]
  refine Till.one (i := 7) (by kernel_rfl) rfl (fun K hK => ?_)
  go_simp
  refine hK.out _ _ (fun h => absurd h (by simp)) ?_
  clear hK K
  try simp only [List.setIfInBounds_toArray, List.set_cons_zero, List.set_cons_succ]
  refine Till.done (by kernel_rfl) ?_ _
  have B7 := Lib.hid (below_on kv.out HB.out)
  have e1 := E1.out
  have t1 := Hb1.out
  have t2 := Hb2.out
  cases q1
  all_goals
    go_wp2_with fail
    go_ret
    exact ⟨ret_bool (by first | rfl | exact t2 | simp), B7.out⟩
end Go.Proofs.YtdpfoegcmngdfaaDoor
