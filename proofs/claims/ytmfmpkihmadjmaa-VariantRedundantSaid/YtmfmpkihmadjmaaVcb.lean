/- bits.Mul and slices.Repeat at small numbers. -/
import Derived.Test.YtmfmpkihmadjmaaVd
import Derived.Test.YtmfmpkihmadjmaaVz
namespace Go.Proofs.Ytmfmpkihmadjmaa
open Go.RowKit Go.Shelf
theorem and_low : ∀ n : Nat, n < 49 → bits .and .u64 (n : Int) 4294967295 = (n : Int) := by decide +kernel
theorem and_one : bits .and .u64 1 4294967295 = 1 := by decide +kernel
theorem and_zero : bits .and .u64 0 4294967295 = 0 := by decide +kernel
set_option maxRecDepth 100000 in
set_option maxHeartbeats 4000000 in
theorem mul64_one (n : Nat) (hn : n ≤ 48) (w : World) : Calls Try.prog 86 #[.int .u64 1, .int .u64 (n : Nat)] w fun e w' => e = .returned (.tuple #[.int .u64 0, .int .u64 (n : Nat)]) ∧ w' = w := by
  have h1 := and_low n (by omega)
  have h2 := and_one
  have h3 : (n : Int) / 4294967296 = 0 := by omega
  have h4 := and_zero
  go_enter Try.func86, Try.ntmps86
  go_wp2_with fail
  go_ret2
  exact ⟨rfl, rfl⟩
set_option maxRecDepth 100000 in
set_option maxHeartbeats 4000000 in
theorem mul_one' (n : Nat) (hn : n ≤ 48) (w : World) : Calls Try.prog 77 #[.int .u64 1, .int .u64 (n : Nat)] w fun e w' => e = .returned (.tuple #[.int .u64 0, .int .u64 (n : Nat)]) ∧ w' = w := by
  have H := Lib.hid (mul64_one n hn)
  go_enter Try.func77, Try.ntmps77
  go_wp2_with fail
  refine (H.out _).mono ?_
  rintro e w2 ⟨rfl, rfl⟩
  go_wp2_with fail
  go_ret2
  exact ⟨rfl, rfl⟩
theorem run_copyB (w : World) (ty : TypeId) (b o dLen dCap : Nat) (a : Addr) (sLen sCap : Nat) (cs : List Value) (hn : cs.length = Nat.min sLen dLen)
    (hsrc : ∀ j v, cs[j]? = some v → w.cell? (a.add j) = some v) (hc : ∀ j, j < cs.length → (w.cell? ⟨b, o + j, none⟩).isSome = true) (hf : ∀ j, j < cs.length → w.frozen? ⟨b, o + j, none⟩ = false) (h1 : ∀ v ∈ cs, v.oneCell' = true) :
    (Builtin.copy_ #[49, 49] ty #[.slice (some ⟨b, o, none⟩) dLen dCap, .slice (some a) sLen sCap]).run Try.prog w = .ok (goInt (Nat.min sLen dLen)) (w.setCells b o cs) := by
  have hl := run_loadCells_list (P := Try.prog) w a cs hsrc
  have hst := run_storeCells_cells (P := Try.prog) b o cs 0 w (by simpa using hc) (by simpa using hf) h1
  obtain ⟨i, hi, hz0, hz1, hz2⟩ := info_parts info_bool
  simp [Builtin.copy_, run_underlying Try.underlying49, Builtin.lenOf, Builtin.firstCells, sizeOf, typeInfo, hi, hz1, ← hn, hl, hst]
theorem wrote_true {us : List Value} {k N m : Nat} (hl : us.length = N) (hk : us.take k = List.replicate k (.bool true)) (hm : k + m ≤ N) : (wrote us k (List.replicate m (.bool true))).take (k + m) = List.replicate (k + m) (.bool true) := by
  unfold wrote
  rw [List.length_replicate, List.take_append_of_le_length (by rw [List.length_append, List.length_take, List.length_replicate]; omega), List.take_of_length_le (by rw [List.length_append, List.length_take, List.length_replicate]; omega), hk, List.replicate_append_replicate]
set_option maxRecDepth 100000 in
set_option maxHeartbeats 8000000 in
theorem repeat_any (b n : Nat) (hn : n ≤ 48) (w : World) (hC : Cells w b [.bool true]) :
    Calls Try.prog 58 #[.slice (some ⟨b, 0, none⟩) 1 1, .int .i64 (n : Nat)] w fun e w' => ∃ g, e = .returned (.slice (some ⟨g, 0, none⟩) n n) ∧ Cells w' g (List.replicate n (.bool true)) ∧ w.heap.size ≤ g ∧ Below w.heap.size w w' := by
  obtain ⟨i0, hi, hz0, hz1, hz2⟩ := info_parts info_bool
  have H := Lib.hid (mul_one' n hn)
  have t0 : ¬ (n : Int) < 0 := by omega
  have e1 : IntKind.u64.wrap (n : Int) = (n : Int) := by rw [IntKind.wrap_u64]; omega
  have e2 : IntKind.i64.wrap (n : Int) = (n : Int) := IntWalk.i64_in _ (by omega)
  have e3 : decide ((9223372036854775807 : Int) < (n : Int)) = false := decide_eq_false (by omega)
  have hC := Lib.hid hC
  go_enter Try.func58, Try.ntmps58
  go_wp2_with fail
  refine (H.out _).mono ?_
  rintro e w2 ⟨rfl, rfl⟩
  go_wp2_with (at_make; refine wpList_make_full _ rfl _ _ 49 rfl w2.heap.size 4 i0 (.bool false) 1 Try.underlying49 hi hz0 hz1 _ _ _ _ n rfl rfl rfl rfl (by rw [hz2]; omega) (by unfold maxLen; omega) (Nat.le_refl _) ?_)
  intro w3 hown hgr
  have hm : (madeCells #[Value.bool false] n).toList = List.replicate n (.bool false) := by
    refine List.ext_getElem (by simp [madeCells]) fun i h1 h2 => ?_
    simp [madeCells, Nat.mod_one]
  rw [hm] at hown
  have hB3 : Below w2.heap.size w2 w3 := (Below.refl w2.heap.size w2).grown hgr (Nat.le_refl _) (by simp)
  obtain ⟨us, hG, hul⟩ : ∃ us, Cells w3 w2.heap.size us ∧ us.length = n := by
    rcases hown.2 with ⟨h, _⟩ | ⟨g, cap, cur, h, _, hh, _, _, hx, _⟩
    · cases h
    · injection h with h1 h2 h3
      injection h1 with h1
      injection h1 with h1
      subst h1
      subst h3
      exact ⟨cur.toList, Cells.of_row hh, by simpa using hx⟩
  obtain ⟨G, hGe⟩ : ∃ G, w2.heap.size = G := ⟨_, rfl⟩
  have hGs : w2.heap.size ≤ G := Nat.le_of_eq hGe
  rw [hGe] at hG ⊢
  have hC3 := hC.out.keep hB3
  have hcp : ∀ ty, (Builtin.copy_ #[49, 49] ty #[.slice (some ⟨G, 0, none⟩) n n, .slice (some ⟨b, 0, none⟩) 1 1]).run Try.prog w3 = .ok (goInt (Nat.min 1 n)) (w3.setCells G 0 (List.replicate (Nat.min 1 n) (.bool true))) := fun ty =>
    run_copyB w3 ty G 0 n n ⟨b, 0, none⟩ 1 1 _ (by simp) (fun j v hj => by
      have hj0 : j = 0 := by
        have := (List.getElem?_eq_some_iff.1 hj).1
        rw [List.length_replicate] at this
        have : Nat.min 1 n ≤ 1 := Nat.min_le_left _ _
        omega
      subst hj0
      have h1 := List.eq_of_mem_replicate (List.mem_of_getElem? hj)
      subst h1
      exact hC3.at_ 0) (fun j hj => by rw [List.length_replicate] at hj; rw [hG.at_, List.getElem?_eq_getElem (by have : Nat.min 1 n ≤ n := Nat.min_le_right _ _; omega)]; rfl) (fun j _ => hG.fz _) (fun v hv => by rw [List.eq_of_mem_replicate hv]; rfl)
  have hml : Nat.min 1 n ≤ n := Nat.min_le_right _ _
  have hm1 : 0 < n → 0 < Nat.min 1 n := fun h => Nat.lt_min.2 ⟨by decide, h⟩
  have C4 := Cells.wrote hG 0 (List.replicate (Nat.min 1 n) (.bool true)) (by rw [List.length_replicate]; omega)
  have T4 := wrote_true (us := us) (k := 0) (m := Nat.min 1 n) hul rfl (by omega)
  have L4 := (wrote_len (us := us) (vs := List.replicate (Nat.min 1 n) (.bool true)) (o := 0) (by rw [List.length_replicate]; omega)).trans hul
  have B4 := hB3.grown (grown_cells G (List.replicate (Nat.min 1 n) (.bool true)) 0 w3) hB3.size (fun k e => by injection e with e; omega)
  rw [Nat.zero_add] at T4
  obtain ⟨m, hme⟩ : ∃ m, Nat.min 1 n = m := ⟨_, rfl⟩
  rw [hme] at hcp C4 T4 L4 B4 hml hm1
  obtain ⟨w4, hw4⟩ : ∃ u, w3.setCells G 0 (List.replicate m (.bool true)) = u := ⟨_, rfl⟩
  rw [hw4] at hcp C4 B4
  obtain ⟨us4, hus4⟩ : ∃ u, wrote us 0 (List.replicate m (.bool true)) = u := ⟨_, rfl⟩
  rw [hus4] at C4 T4 L4
  have H4 := Lib.hid (⟨C4, T4, L4, B4⟩ : Cells w4 G us4 ∧ us4.take m = List.replicate m (.bool true) ∧ us4.length = n ∧ Below w2.heap.size w2 w4)
  have Hm := Lib.hid (⟨hml, hm1⟩ : m ≤ n ∧ (0 < n → 0 < m))
  have HGs := Lib.hid hGs
  clear hm hown hgr hG hul hC3 C4 T4 L4 B4 hus4 hw4 hme hGe hml hm1 hGs hB3 H hC
  go_wp2_with fail
  go_loopw [8] (fun i wr => ∃ (k : Nat) (us : List Value), i = .int .i64 (k : Nat) ∧ k ≤ n ∧ (0 < n → 0 < k) ∧ Cells wr G us ∧ us.take k = List.replicate k (.bool true) ∧ us.length = n ∧ Below w2.heap.size w2 wr) (fun i _ => n - (intOf i).toNat)
  case atStart => exact ⟨m, us4, rfl, Hm.out.1, Hm.out.2, H4.out⟩
  case round =>
    obtain ⟨k, us, rfl, hk, hk0, hG, htk, hul, hb⟩ := hrel
    by_cases hlt : k < n
    · have i1 : (k : Int) < (n : Int) := by omega
      have hp : 0 < k := hk0 (by omega)
      obtain ⟨m', hm'⟩ : ∃ m', Nat.min k (n - k) = m' := ⟨_, rfl⟩
      have hmn : m' ≤ n - k := by rw [← hm']; exact Nat.min_le_right _ _
      have hmk : m' ≤ k := by rw [← hm']; exact Nat.min_le_left _ _
      have hmp : 0 < m' := by rw [← hm']; exact Nat.lt_min.2 ⟨hp, by omega⟩
      have hcp : ∀ ty c1 c2, (Builtin.copy_ #[49, 49] ty #[.slice (some ⟨G, k, none⟩) (n - k) c1, .slice (some ⟨G, 0, none⟩) k c2]).run Try.prog wr.drew = .ok (goInt m') (wr.drew.setCells G k (List.replicate m' (.bool true))) := fun ty c1 c2 => by
        have := run_copyB wr.drew ty G k (n - k) c1 ⟨G, 0, none⟩ k c2 (List.replicate m' (.bool true)) (by rw [List.length_replicate, hm']) (fun j v hj => by
          have hj0 := (List.getElem?_eq_some_iff.1 hj).1
          rw [List.length_replicate] at hj0
          have h1 := List.eq_of_mem_replicate (List.mem_of_getElem? hj)
          subst h1
          rw [Addr.add_lit, Nat.zero_add]
          refine (hG.at_ j).trans ?_
          rw [← List.getElem?_take_of_lt (show j < k by omega), htk, List.getElem?_replicate, if_pos (by omega)]) (fun j hj => by rw [List.length_replicate] at hj; show (wr.cell? _).isSome = true; rw [hG.at_, List.getElem?_eq_getElem (by omega)]; rfl) (fun j _ => hG.fz _) (fun v hv => by rw [List.eq_of_mem_replicate hv]; rfl)
        rw [hm'] at this
        exact this
      have C5 := Cells.wrote (w := wr.drew) hG.drew k (List.replicate m' (.bool true)) (by rw [List.length_replicate]; omega)
      have T5 := wrote_true (m := m') hul htk (by omega)
      have L5 := (wrote_len (us := us) (vs := List.replicate m' (.bool true)) (o := k) (by rw [List.length_replicate]; omega)).trans hul
      have B5 := (hb.drew).grown (grown_cells G (List.replicate m' (.bool true)) k wr.drew) hb.drew.size (fun k e => by injection e with e; have := HGs.out; omega)
      obtain ⟨w5, hw5⟩ : ∃ u, wr.drew.setCells G k (List.replicate m' (.bool true)) = u := ⟨_, rfl⟩
      rw [hw5] at hcp C5 B5
      obtain ⟨us5, hus5⟩ : ∃ u, wrote us k (List.replicate m' (.bool true)) = u := ⟨_, rfl⟩
      rw [hus5] at C5 T5 L5
      have H5 := Lib.hid (⟨C5, T5, L5, B5⟩ : Cells w5 G us5 ∧ us5.take (k + m') = List.replicate (k + m') (.bool true) ∧ us5.length = n ∧ Below w2.heap.size w2 w5)
      have Hcc := Lib.hid hcp
      have mixed : Try.prog.follows .mixedOrders = true := by kernel_rfl
      have x1 : k ≤ n := hk
      have x2 : IntKind.i64.wrap ((k : Int) + (m' : Int)) = (k : Int) + (m' : Int) := IntWalk.i64_in _ (by omega)
      have x4 : ¬ (n = k) := by omega
      clear hG htk hul hb hcp C5 T5 L5 B5 hus5 hw5 hm' hk0
      have hcc := Hcc.out
      go_wp2_with fail
      go_region
      go_wp2_with fail
      go_roundw
      case rel => exact ⟨k + m', us5, by go_num, by omega, fun _ => by omega, H5.out⟩
      case measure => simp [intOf]; omega
    · have hkn : k = n := by omega
      subst hkn
      have hus : us = List.replicate k (.bool true) := by rw [← htk, List.take_of_length_le (by omega)]
      rw [hus] at hG
      clear htk hul hk0
      go_wp2_with fail
      go_ret
      exact ⟨G, rfl, hG, HGs.out, hb⟩
end Go.Proofs.Ytmfmpkihmadjmaa
