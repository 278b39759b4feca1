/- slices.Clone of words, slices.Reverse of bytes. -/
import Derived.Test.YtjcblcikipmojaaGreatDoorMulAdd
import Derived.WalkSpells
namespace Go.Proofs.YtjcblcikipmojaaGreatDoor
open Go.RowKit

theorem info_u64 : (Tryz.prog.info? 106).map (fun i => (i.zero, i.size, i.bytes)) = some (some (.int .u64 0), 1, 8) := by kernel_rfl

def ClonePost (n : Nat) (xs : List Nat) (w : World) (e : Ending) (w' : World) : Prop :=
  ∃ g c, e = .returned (.slice (some ⟨g, 0, none⟩) n c) ∧ n ≤ c ∧ c ≤ 9223372036854775807 ∧ w.heap.size ≤ g ∧ Blk w' g xs ∧ Below w.heap.size w w'

set_option maxRecDepth 100000 in
set_option maxHeartbeats 4000000 in
theorem clone_some (A : Option Addr) (n c : Nat) (xs : List Nat) (w : World) (hl : IsL w A n c (u64s xs)) (h0 : 0 < n) (hn : n < 4294967296) :
    Calls Tryz.prog 107 #[.slice A n c] w (ClonePost n xs w) := by
  obtain ⟨i0, hi, hz0, hz1, hz2⟩ := info_parts info_u64
  obtain ⟨b, o, rfl, hb, hcell⟩ := hl.2.2 h0
  have hlen := hl.1
  have Hc := Lib.hid hcell
  clear hcell hl
  have hnil := fun W : World => Lib.run_eql_slice_nil (P := Tryz.prog) W 81 106 (some ⟨b, o, none⟩) n c 0 0 Tryz.underlying81
  go_enter Tryz.func107, Tryz.ntmps107
  go_wp2_with (at_builtin; refine wpList_append_own _ rfl _ _ 81 rfl w.heap.size 106 i0 (.int .u64 0) 1 8 Tryz.underlying81 hi hz0 hz1 hz2 rfl (by decide) _ 0 [] rfl ?c0 ⟨b, o, none⟩ n c (u64s xs) rfl ?c6 ?c1 ?c2 ?c3 ?c4 ?c5 ?_)
  case c0 => exact ⟨by simp, .inr ⟨w.heap.size, 0, #[], rfl, Nat.le_refl _, heap_alloc_new w _, Nat.le_refl _, Nat.zero_le _, by simp, by simp⟩⟩
  case c6 => rw [hlen, Nat.mul_one]
  case c1 =>
    intro j u hu
    have e : (⟨b, o, none⟩ : Addr).add j = ⟨b, o + j, none⟩ := by unfold Addr.add; split <;> simp_all
    rw [e, World.cell?_alloc_lt _ _ _ (by exact hb)]
    exact Hc.out j u hu
  case c2 =>
    intro u hu
    obtain ⟨d, _, rfl⟩ := List.mem_map.1 hu
    rfl
  case c3 => unfold maxLen; omega
  case c4 => omega
  case c5 => simp
  intro v' w1 hown' hgrow _
  try simp only [Nat.zero_add, List.nil_append] at hown'
  obtain ⟨g, c', rfl, hnc, hcm, hg, hblk⟩ := Blk.of_own hown' h0
  have hbel : Below w.heap.size w w1 := ((Below.refl _ _).alloc (Nat.le_refl _) _).grown hgrow (by simp) (fun k hk => by simp [Value.ownBlock] at hk; omega)
  have Hblk := Lib.hid hblk
  have Hbel := Lib.hid hbel
  unfold maxLen at hcm
  clear hblk hbel hown' hgrow hnil
  go_wp2
  go_ret
  exact ⟨g, c', rfl, hnc, hcm, hg, Hblk.out, Hbel.out⟩

/-- Bytes in memory: block g begins with these. -/
def Bytes (w : World) (g : Nat) (bs : List Int) : Prop := ∃ cur : Array Value, w.heap[g]? = some (.cells cur 5 (0, 0)) ∧ cur.toList.take bs.length = bytesOf bs
theorem Bytes.cell {w : World} {g : Nat} {xs : List Int} (h : Bytes w g xs) {i : Nat} (hi : i < xs.length) : w.cell? ⟨g, i, none⟩ = some (.int .u8 (xs.getD i 0)) := by
  obtain ⟨cur, h, hc⟩ := h
  rw [cell_of_row w g i cur 5 (0, 0) h]
  have e : cur.toList[i]? = (bytesOf xs)[i]? := by rw [← hc, List.getElem?_take, if_pos hi]
  rw [← Array.getElem?_toList, e]
  simp [bytesOf, hi]
theorem Bytes.frozen {w : World} {g : Nat} {xs : List Int} (h : Bytes w g xs) (i : Nat) : w.frozen? ⟨g, i, none⟩ = false := by
  obtain ⟨cur, h, _⟩ := h
  simp [World.frozen?, h]
theorem Bytes.set_ {w : World} {g : Nat} {xs : List Int} (h : Bytes w g xs) (i : Nat) (d : Int) : Bytes (w.setCell ⟨g, i, none⟩ (.int .u8 d)) g (xs.set i d) := by
  obtain ⟨cur, h, hc⟩ := h
  refine ⟨cur.setIfInBounds i (.int .u8 d), by simp [World.setCell, Array.getElem?_modify, h], ?_⟩
  rw [Array.toList_setIfInBounds, List.length_set, List.take_set, hc]
  simp [bytesOf, List.map_set]
theorem Bytes.drew {w : World} {g : Nat} {xs : List Int} (h : Bytes w g xs) : Bytes w.drew g xs := h

theorem rev_step {l m : List Int} {i q n : Nat} {x y : Int} (hm : m.length = n) (hin : i < n) (hqn : q < n) (hiq : i < q) (hij : i + (q + 1) = n) (hx : m.getD i 0 = x) (hy : m.getD q 0 = y)
    (hval : ∀ k, k < n → m.getD k 0 = if i ≤ k ∧ k < q + 1 then l.getD k 0 else l.getD (n - 1 - k) 0) : ∀ k, k < n → ((m.set i y).set q x).getD k 0 = if i + 1 ≤ k ∧ k < q then l.getD k 0 else l.getD (n - 1 - k) 0 := by
  intro k hk
  have hvi := hval i hin
  have hvq := hval q hqn
  rw [if_pos (by omega), hx] at hvi
  rw [if_pos (by omega), hy] at hvq
  by_cases h1 : k = q
  · subst h1
    rw [if_neg (by omega), show n - 1 - k = i by omega, ← hvi]
    simp [List.getD, hm, hk]
  · by_cases h2 : k = i
    · subst h2
      rw [if_neg (by omega), show n - 1 - k = q by omega, ← hvq]
      simp [List.getD, hm, hk, Ne.symm h1]
    · have e : ((m.set i y).set q x).getD k 0 = m.getD k 0 := by simp [List.getD, Ne.symm h1, Ne.symm h2]
      rw [e, hval k hk]
      by_cases h3 : i ≤ k ∧ k < q + 1
      · rw [if_pos h3, if_pos (by omega)]
      · rw [if_neg h3, if_neg (by omega)]

set_option maxRecDepth 100000 in
set_option maxHeartbeats 4000000 in
theorem reverse_any (g n c : Nat) (l : List Int) (w : World) (hb : Bytes w g l) (hn : l.length = n) (h1 : n < 4294967296) :
    Calls Tryz.prog 110 #[.slice (some ⟨g, 0, none⟩) n c] w fun e w' => e = .returned (.tuple #[]) ∧ Bytes w' g l.reverse ∧ Only g w w' := by
  have Hb := Lib.hid hb
  have Hn := Lib.hid hn
  clear hb hn
  go_enter Tryz.func110, Tryz.ntmps110
  go_wp2_with fail
  go_loopw [2, 3] (fun vi vj wr => ∃ i j : Nat, vi = .int .i64 (i : Nat) ∧ vj = .int .i64 ((j : Int) - 1) ∧ i + j = n ∧ i ≤ j + 1 ∧ (∃ m, m.length = n ∧ Bytes wr g m ∧ (∀ k, k < n → m.getD k 0 = if i ≤ k ∧ k < j then l.getD k 0 else l.getD (n - 1 - k) 0)) ∧ Only g w wr) (fun vi vj _ => (intOf vj - intOf vi + 2).toNat)
  case atStart => exact ⟨0, n, rfl, rfl, by omega, by omega, ⟨l, Hn.out, Hb.out, fun k hk => by rw [if_pos ⟨Nat.zero_le _, hk⟩]⟩, Only.refl _ _⟩
  case round =>
    obtain ⟨i, j, rfl, rfl, hij, hle, ⟨m, hm, hbm, hval⟩, honly⟩ := hrel
    have Hval := Lib.hid hval
    have Honly := Lib.hid honly
    have Hbm := Lib.hid hbm
    have Hm := Lib.hid hm
    have Hij := Lib.hid hij
    by_cases hlt : i + 1 < j
    · have ci := hbm.cell (i := i) (by omega)
      have cj := hbm.cell (i := j - 1) (by omega)
      have fi := hbm.frozen i
      have fj := hbm.frozen (j - 1)
      clear hval honly hbm hm hij
      obtain ⟨q, rfl⟩ : ∃ q, j = q + 1 := ⟨j - 1, by omega⟩
      rw [show q + 1 - 1 = q from rfl] at cj fj
      have hin : i < n := by have := Hij.out; omega
      have hqn : q < n := by have := Hij.out; omega
      have hiq : i < q := by omega
      have hne : i ≠ q := by omega
      obtain ⟨x, hx⟩ : ∃ x, m.getD i 0 = x := ⟨_, rfl⟩
      obtain ⟨y, hy⟩ : ∃ y, m.getD q 0 = y := ⟨_, rfl⟩
      rw [hx] at ci
      rw [hy] at cj
      have Hx := Lib.hid hx
      have Hy := Lib.hid hy
      clear hx hy
      go_wp2_with fail
      go_region
      all_goals
        have Hf1 := Lib.hid (((Hbm.out.drew).set_ i y).set_ q x)
        go_wp2_with fail
        exact ⟨⟨i + 1, q, by go_num, rfl, by have := Hij.out; omega, by omega, ⟨(m.set i y).set q x, by rw [List.length_set, List.length_set]; exact Hm.out, Hf1.out, rev_step Hm.out hin hqn hiq Hij.out Hx.out Hy.out Hval.out⟩, (((Honly.out.drewN 1).set_ i _).set_ q _)⟩, by simp [intOf] <;> omega⟩
    · have hfin : m = l.reverse := by
        apply List.ext_getElem
        · rw [List.length_reverse, Hm.out, Hn.out]
        · intro k h1 h2
          have hk : k < n := by have := Hm.out; omega
          have := Hval.out k hk
          rw [List.getElem_reverse]
          have e : (if i ≤ k ∧ k < j then l.getD k 0 else l.getD (n - 1 - k) 0) = l.getD (n - 1 - k) 0 := by
            split
            · congr 1; have := Hij.out; omega
            · rfl
          rw [e] at this
          have hl := Hn.out
          simp [List.getD, h1, show n - 1 - k < l.length by omega] at this
          simp [this, hl]
      have Hfin := Lib.hid (show Bytes wr g l.reverse by rw [← hfin]; exact hbm)
      clear hval honly hbm hm hij hfin
      go_wp2
      go_end0
      exact ⟨rfl, Hfin.out, Honly.out⟩
end Go.Proofs.YtjcblcikipmojaaGreatDoor
