/- A rule is put into a row again, in place: Insert; Clone. -/
import Derived.Lib.SlFresh
import Derived.Shelf.Spec.SlicesInsert
import Derived.Test.YtmfmpkihmadjmaaVd
namespace Go.Proofs.Ytmfmpkihmadjmaa
open Go.RowKit Go.Shelf
theorem size_rule (w : World) : (Go.sizeOf 76).run Try.prog w = .ok 2 w := by
  obtain ⟨i, hi, hz0, hz1, hz2⟩ := info_parts info_rule
  simp [sizeOf, typeInfo, hi, hz1]
set_option maxRecDepth 100000 in
set_option maxHeartbeats 8000000 in
theorem insert_end (g cap n vb : Nat) (us vs : List Value) (w : World) (h : Cells w g us) (hul : us.length = cap * 2) (hn : n + 1 ≤ cap) (hcap : cap ≤ 9223372036854775807) (hn2 : n ≤ 1000000) (hv : Cells w vb vs) (hvl : vs.length = 2) (h2 : ∀ v ∈ vs, v.oneCell' = true) :
    Calls Try.prog 52 #[.slice (some ⟨g, 0, none⟩) n cap, .int .i64 (n : Nat), .slice (some ⟨vb, 0, none⟩) 1 1] w fun e w' => e = .returned (.slice (some ⟨g, 0, none⟩) (n + 1) cap) ∧
      (∃ us', us'.length = us.length ∧ us'.take ((n + 1) * 2) = us.take (n * 2) ++ vs ∧ Cells w' g us') ∧ w.grownBy w' (some g) := by
  obtain ⟨i0, hi0, hz0, hz1, hz2⟩ := info_parts info_rule
  have hwl : n * 2 + vs.length ≤ us.length := by omega
  have C1 := Cells.wrote h (n * 2) vs hwl
  have G1 := grown_cells g vs (n * 2) w
  have hap : ∀ ty, (Builtin.append_ #[36, 36] ty #[.slice (some ⟨g, 0, none⟩) n cap, .slice (some ⟨vb, 0, none⟩) 1 1]).run Try.prog w = .ok (.slice (some ⟨g, 0, none⟩) (n + 1) cap) (w.setCells g (n * 2) vs) := fun ty => by
    have := run_append_room_cells (P := Try.prog) w 36 ty 76 i0 Try.underlying36 hi0 g 0 n cap ⟨vb, 0, none⟩ 1 1 vs (by rw [hz1, hvl]) (fun j u hj => by rw [Addr.add_lit, Nat.zero_add]; exact (hv.at_ j).trans hj) h2 hn
      (fun j hj => by rw [hz1, h.at_, List.getElem?_eq_getElem (by omega)]; rfl) (fun j hj => h.fz _)
    rw [hz1, Nat.zero_add] at this
    exact this
  have hfin : (wrote us (n * 2) vs).take ((n + 1) * 2) = us.take (n * 2) ++ vs := by
    unfold wrote
    rw [List.take_append_of_le_length (by rw [List.length_append, List.length_take]; omega), List.take_of_length_le (by rw [List.length_append, List.length_take]; omega)]
  have F := Lib.hid (show (∃ us', us'.length = us.length ∧ us'.take ((n + 1) * 2) = us.take (n * 2) ++ vs ∧ Cells (w.setCells g (n * 2) vs) g us') ∧ w.grownBy (w.setCells g (n * 2) vs) (some g) from ⟨⟨_, wrote_len hwl, hfin, C1⟩, G1⟩)
  have Hap := Lib.hid hap
  have hnc : n ≤ cap := by omega
  clear h hul hv hvl h2 hwl C1 G1 hfin hap
  go_enter Try.func52, Try.ntmps52
  go_wp2_with (at_builtin; refine Lib.wpList_append_run_sl _ rfl _ _ 36 rfl _ _ rfl rfl (Hap.out _) ?_)
  go_ret
  exact ⟨rfl, F.out⟩
set_option maxRecDepth 100000 in
set_option maxHeartbeats 8000000 in
theorem insert_mid (g cap n i vb : Nat) (us vs : List Value) (w : World) (h : Cells w g us) (hul : us.length = cap * 2) (hn : n + 1 ≤ cap) (hin : i < n) (hcap : cap ≤ 9223372036854775807) (hn2 : n ≤ 1000000) (hv : Cells w vb vs) (hvl : vs.length = 2) (hvg : vb ≠ g) (h1 : ∀ v ∈ us.take (n * 2), v.oneCell' = true) (h2 : ∀ v ∈ vs, v.oneCell' = true) :
    Calls Try.prog 52 #[.slice (some ⟨g, 0, none⟩) n cap, .int .i64 (i : Nat), .slice (some ⟨vb, 0, none⟩) 1 1] w fun e w' => e = .returned (.slice (some ⟨g, 0, none⟩) (n + 1) cap) ∧
      (∃ us', us'.length = us.length ∧ us'.take ((n + 1) * 2) = us.take (i * 2) ++ vs ++ (us.take (n * 2)).drop (i * 2) ∧ Cells w' g us') ∧ w.grownBy w' (some g) := by
  obtain ⟨i0, hi0, hz0, hz1, hz2⟩ := info_parts info_rule
  obtain ⟨tA, kA, hsa, _, _⟩ := World.shape?_of_cell? (a := ⟨vb, 0, none⟩) ((hv.at_ 0).trans (List.getElem?_eq_getElem (by omega)))
  obtain ⟨tB, kB, hsb, hkB, _⟩ := World.shape?_of_cell? (a := ⟨g, 0, none⟩) ((h.at_ 0).trans (List.getElem?_eq_getElem (by omega)))
  have hkB0 : kB ≠ 0 := by simp at hkB; omega
  have hov : ∀ lb cb, (callFunc 71 #[.slice (some ⟨vb, 0, none⟩) 1 1, .slice (some ⟨g, (i + 1) * 2, none⟩) lb cb]).run Try.prog w = .ok (.value (.bool false)) w := fun lb cb => by
    rw [run_callFunc_extern Try.func71 (by kernel_rfl) (by kernel_rfl) (by kernel_rfl) (e := Extern.SlicesOverlaps.overlaps #[36, 36] #[4]) (by kernel_rfl),
      Lib.run_overlaps_apart w 36 4 76 Try.underlying36 2 size_rule ⟨vb, 0, none⟩ ⟨g, (i + 1) * 2, none⟩ 1 1 lb cb hvg tA tB kA kB hsa hsb hkB0 (hv.fz 0) (hv.fz kA)]
    rfl
  obtain ⟨cs, hcs⟩ : ∃ cs, (us.take (n * 2)).drop (i * 2) = cs := ⟨_, rfl⟩
  have hcl : cs.length = (n - i) * 2 := by rw [← hcs, List.length_drop, List.length_take]; omega
  have hget : ∀ t u, cs[t]? = some u → us[i * 2 + t]? = some u := fun t u hu => by
    rw [← hcs, List.getElem?_drop] at hu
    rcases Nat.lt_or_ge (i * 2 + t) (n * 2) with hlt | hge
    · rwa [List.getElem?_take_of_lt hlt] at hu
    · rw [List.getElem?_take_eq_none hge] at hu; cases hu
  have hc1 : ∀ u ∈ cs, u.oneCell' = true := fun u hu => h1 u (by rw [← hcs] at hu; exact List.mem_of_mem_drop hu)
  have hwl : (i + 1) * 2 + cs.length ≤ us.length := by omega
  have C1 := Cells.wrote (w := w.drew) h.drew ((i + 1) * 2) cs hwl
  have hcp1 : ∀ ty dc sc, (Builtin.copy_ #[36, 36] ty #[.slice (some ⟨g, (i + 1) * 2, none⟩) (n - i) dc, .slice (some ⟨g, i * 2, none⟩) (n + 1 - i) sc]).run Try.prog w.drew = .ok (goInt (Nat.min (n + 1 - i) (n - i))) (w.drew.setCells g ((i + 1) * 2) cs) := fun ty dc sc =>
    run_copy2 w.drew ty g ((i + 1) * 2) (n - i) dc ⟨g, i * 2, none⟩ (n + 1 - i) sc cs (by rw [hcl]; simp only [Nat.min_def]; split <;> omega)
      (fun j v hj => by rw [Addr.add_lit]; exact (h.at_ _).trans (hget j v hj)) (fun j hj => by show (w.cell? _).isSome = true; rw [h.at_, List.getElem?_eq_getElem (by omega)]; rfl) (fun j hj => h.fz _) hc1
  obtain ⟨us1, hus1⟩ : ∃ u, wrote us ((i + 1) * 2) cs = u := ⟨_, rfl⟩
  have hus1l : us1.length = us.length := by rw [← hus1]; exact wrote_len hwl
  rw [hus1] at C1
  have G1 := grown_trans (grown_drew w (some g)) (grown_cells g cs ((i + 1) * 2) w.drew)
  have hv1 : Cells (w.drew.setCells g ((i + 1) * 2) cs) vb vs := hv.grown G1 hvg
  obtain ⟨W1, hW1⟩ : ∃ W1, w.drew.setCells g ((i + 1) * 2) cs = W1 := ⟨_, rfl⟩
  rw [hW1] at C1 G1 hv1 hcp1
  have hwl2 : i * 2 + vs.length ≤ us1.length := by omega
  have hcp2 : ∀ ty dc, (Builtin.copy_ #[36, 36] ty #[.slice (some ⟨g, i * 2, none⟩) (n + 1 - i) dc, .slice (some ⟨vb, 0, none⟩) 1 1]).run Try.prog W1 = .ok (goInt (Nat.min 1 (n + 1 - i))) (W1.setCells g (i * 2) vs) := fun ty dc =>
    run_copy2 W1 ty g (i * 2) (n + 1 - i) dc ⟨vb, 0, none⟩ 1 1 vs (by rw [hvl]; simp only [Nat.min_def]; split <;> omega)
      (fun j v hj => by rw [Addr.add_lit, Nat.zero_add]; exact (hv1.at_ j).trans hj) (fun j hj => by rw [C1.at_, List.getElem?_eq_getElem (by omega)]; rfl) (fun j hj => C1.fz _) h2
  have C2 := Cells.wrote C1 (i * 2) vs hwl2
  have G2 := grown_trans G1 (grown_cells g vs (i * 2) W1)
  have hfin : (wrote us1 (i * 2) vs).take ((n + 1) * 2) = us.take (i * 2) ++ vs ++ cs := by
    unfold wrote
    rw [List.take_append, List.take_of_length_le (by rw [List.length_append, List.length_take]; omega)]
    have e1 : us1.take (i * 2) = us.take (i * 2) := by
      rw [← hus1]; unfold wrote
      rw [List.append_assoc, List.take_append_of_le_length (by rw [List.length_take]; omega), List.take_take, Nat.min_eq_left (by omega)]
    have e2 : (us1.drop (i * 2 + vs.length)).take ((n + 1) * 2 - (us1.take (i * 2) ++ vs).length) = cs := by
      rw [← hus1]; unfold wrote
      rw [hvl, show i * 2 + 2 = (us.take ((i + 1) * 2)).length by rw [List.length_take]; omega, List.append_assoc, List.drop_left, List.take_append_of_le_length (by rw [List.length_append, List.length_take, List.length_append, List.length_append, List.length_take, hcl]; omega), List.take_of_length_le (by rw [List.length_append, List.length_take, List.length_append, List.length_append, List.length_take, hcl, List.length_drop]; omega)]
    rw [e1] at e2 ⊢
    rw [e2]
  have F := Lib.hid (show (∃ us', us'.length = us.length ∧ us'.take ((n + 1) * 2) = us.take (i * 2) ++ vs ++ cs ∧ Cells (W1.setCells g (i * 2) vs) g us') ∧ w.grownBy (W1.setCells g (i * 2) vs) (some g) from ⟨⟨_, (wrote_len hwl2).trans hus1l, hfin, C2⟩, G2⟩)
  have Hc1 := Lib.hid hcp1
  have Hc2 := Lib.hid hcp2
  have mixed : Try.prog.follows .mixedOrders = true := by kernel_rfl
  have x1 : ((i : Int) == (n : Int)) = false := by simp; omega
  have x2 : IntKind.i64.wrap ((i : Int) + 1) = (i : Int) + 1 := IntWalk.i64_in _ (by omega)
  have x3 : ((i : Int) + 1).toNat = i + 1 := by omega
  have x4 : ¬ (cap = i + 1) := by omega
  have x5 : ¬ (cap = i) := by omega
  have x6 : IntKind.i64.wrap ((n : Int) + 1) = (n : Int) + 1 := IntWalk.i64_in _ (by omega)
  have x7 : decide ((cap : Int) < (n : Int) + 1) = false := decide_eq_false (by omega)
  have x8 : (0 : Int) ≤ (i : Int) + 1 := by omega
  have x9 : (i : Int) ≤ (n : Int) + 1 := by omega
  have x10 : ((n : Int) + 1).toNat = n + 1 := by omega
  have x11 : (n : Int) + 1 ≤ (cap : Int) := by omega
  have x12 : i ≤ n := by omega
  have x13 : i ≤ n + 1 := by omega
  rw [hcs]
  clear h hul hv hvl h1 h2 hwl C1 G1 hfin hcp1 hcp2 hus1 hus1l hcl hget hc1 C2 G2 hv1 hwl2 hcs hW1
  go_enter Try.func52, Try.ntmps52
  go_wp2_with (simp only [hov])
  have hcc := Hc1.out
  have hcc2 := Hc2.out
  go_region_law fail
  go_wp2_with fail
  go_ret
  exact ⟨rfl, F.out⟩
end Go.Proofs.Ytmfmpkihmadjmaa
