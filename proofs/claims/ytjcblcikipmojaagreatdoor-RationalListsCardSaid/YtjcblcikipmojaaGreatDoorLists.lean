/- Lists of texts in memory: ContainsFunc, Clone, Equal. -/
import Derived.Test.YtjcblcikipmojaaGreatDoorChk
namespace Go.Proofs.YtjcblcikipmojaaGreatDoor
open Go.RowKit

/-- A slice of strings. -/
def SL (w : World) (A : Option Addr) (n : Nat) (l : List ByteArray) : Prop :=
  l.length = n ∧ ∀ k s, l[k]? = some s → ∃ b o, A = some ⟨b, o, none⟩ ∧ b < w.heap.size ∧ w.cell? ⟨b, o + k, none⟩ = some (.string s)
theorem SL.keep {w w' : World} {A : Option Addr} {n : Nat} {l : List ByteArray} (h : SL w A n l) (hb : Below w.heap.size w w') : SL w' A n l :=
  ⟨h.1, fun k s hk => let ⟨b, o, e, hlt, hc⟩ := h.2 k s hk; ⟨b, o, e, Nat.lt_of_lt_of_le hlt hb.size, (hb.cell (p := ⟨b, o + k, none⟩) hlt).trans hc⟩⟩
theorem SL.at_ {w : World} {A : Option Addr} {n : Nat} {l : List ByteArray} (h : SL w A n l) {k : Nat} (hk : k < n) : ∃ s b o, l[k]? = some s ∧ A = some ⟨b, o, none⟩ ∧ b < w.heap.size ∧ w.cell? ⟨b, o + k, none⟩ = some (.string s) := by
  have hl : k < l.length := by rw [h.1]; exact hk
  obtain ⟨b, o, e, hb, hc⟩ := h.2 k l[k] (List.getElem?_eq_getElem hl)
  exact ⟨_, b, o, List.getElem?_eq_getElem hl, e, hb, hc⟩
theorem all_up {l : List ByteArray} {k : Nat} {s : ByteArray} {p : ByteArray → Prop} (hk : l[k]? = some s) (h : ∀ x ∈ l.take k, p x) (hs : p s) : ∀ x ∈ l.take (k + 1), p x := by
  rw [List.take_add_one, hk]
  intro x hx
  rcases List.mem_append.1 hx with h1 | h1
  · exact h x h1
  · rw [List.mem_singleton.1 h1]; exact hs
theorem listLong_any (s : ByteArray) (w : World) :
    Calls Tryz.prog 19 #[.string s] w fun e w' => e = .returned (.bool (decide (40 < s.size))) ∧ w = w' := by
  go_enter Tryz.func19, Tryz.ntmps19
  go_wp2
  go_ret
  simp
  omega
set_option maxHeartbeats 1000000 in
theorem indexLong_any (A : Option Addr) (n c : Nat) (l : List ByteArray) (w : World) (h : SL w A n l) (hn : n ≤ 1000) :
    Calls Tryz.prog 71 #[.slice A n c, .func (.func 19) #[] #[]] w fun e w' => (∃ j : Int, e = .returned (.int .i64 j) ∧ (j < 0 → ∀ s ∈ l, s.size ≤ 40)) ∧ w = w' := by
  have H := Lib.hid h
  clear h
  go_enter Tryz.func71, Tryz.ntmps71
  go_wp2_with fail
  go_loop [8] (fun v => ∃ k : Nat, k ≤ n ∧ v = .int .i64 (k : Nat) ∧ ∀ s ∈ l.take k, s.size ≤ 40) (fun v => n - (intOf v).toNat)
  case atStart => exact ⟨0, Nat.zero_le _, rfl, by simp⟩
  case round =>
    obtain ⟨k, hk, rfl, hall⟩ := hrel
    have Hall := Lib.hid hall
    clear hall
    by_cases hlt : k < n
    · obtain ⟨s, b, o, hs, rfl, _, hc⟩ := H.out.at_ hlt
      have Hs := Lib.hid hs
      have HL := Lib.hid (fun w => listLong_any s w)
      clear hs
      go_wp2_with fail
      refine (HL.out _).mono ?_
      rintro e w1 ⟨rfl, rfl⟩
      by_cases hb : 40 < s.size
      · go_wp2
        go_ret
        exact ⟨⟨_, rfl, fun h => by omega⟩, rfl⟩
      · have hf := Lib.hid (all_up (p := fun s => s.size ≤ 40) Hs.out Hall.out (by omega))
        go_wp2
        go_round
        case rel => exact ⟨k + 1, by omega, by go_num, hf.out⟩
        case measure => simp [intOf]; omega
    · obtain rfl : k = n := by omega
      have hf := Lib.hid Hall.out
      rw [List.take_of_length_le (by rw [H.out.1]; exact Nat.le_refl _)] at hf
      go_wp2
      go_ret
      exact ⟨⟨_, rfl, fun _ => hf.out⟩, rfl⟩
theorem containsLong_any (A : Option Addr) (n c : Nat) (l : List ByteArray) (w : World) (h : SL w A n l) (hn : n ≤ 1000) :
    Calls Tryz.prog 18 #[.slice A n c, .func (.func 19) #[] #[]] w fun e w' => (∃ b : Bool, e = .returned (.bool b) ∧ (b = false → ∀ s ∈ l, s.size ≤ 40)) ∧ w = w' := by
  have HI := Lib.hid (indexLong_any A n c l w h hn)
  clear h
  go_enter Tryz.func18, Tryz.ntmps18
  go_wp2_with fail
  refine HI.out.mono ?_
  rintro e w1 ⟨⟨j, rfl, hj⟩, rfl⟩
  have Hj := Lib.hid hj
  clear hj
  by_cases h0 : 0 ≤ j
  · have t0 : decide (0 ≤ j) = true := decide_eq_true h0
    go_wp2
    go_ret
    exact ⟨⟨_, rfl, fun h => by simp at h⟩, rfl⟩
  · have Hf := Lib.hid (Hj.out (by omega))
    go_wp2
    go_ret
    exact ⟨⟨_, rfl, fun _ => Hf.out⟩, rfl⟩
def strsOf (l : List ByteArray) : List Value := l.map Value.string
theorem info_num : (Tryz.prog.info? 31).map (fun i => (i.zero, i.size, i.bytes)) = some (some (.string ⟨#[]⟩), 1, 16) := by kernel_rfl
theorem SL.of_own {w : World} {base n : Nat} {v : Value} {l : List ByteArray} (h : w.ownsRow base 31 1 v n (strsOf l)) (hl : l.length = n) : ∃ A c, v = .slice A n c ∧ SL w A n l ∧ (A = none → n = 0 ∧ c = 0) ∧ c ≤ maxLen := by
  rcases h.2 with ⟨rfl, rfl⟩ | ⟨g, cap, cur, rfl, hg, hh, hnc, hcm, hcs, hx⟩
  · refine ⟨none, 0, rfl, ⟨hl, fun k s hk => ?_⟩, fun _ => ⟨rfl, rfl⟩, Nat.zero_le _⟩
    rw [List.eq_nil_of_length_eq_zero hl] at hk
    cases hk
  · refine ⟨_, cap, rfl, ⟨hl, fun k s hk => ⟨g, 0, rfl, ?_, ?_⟩⟩, (fun h => by cases h), hcm⟩
    · rcases Nat.lt_or_ge g w.heap.size with h1 | h1
      · exact h1
      · rw [Array.getElem?_eq_none h1] at hh; cases hh
    · rw [cell_of_row _ _ _ _ _ _ hh, Nat.zero_add]
      have e : cur.toList[k]? = some (.string s) := by
        have hk2 : k < n := by
          rcases Nat.lt_or_ge k l.length with h1 | h1
          · omega
          · rw [List.getElem?_eq_none h1] at hk; cases hk
        have e1 : (cur.toList.take (n * 1))[k]? = cur.toList[k]? := List.getElem?_take_of_lt (by omega)
        rw [← e1, hx]
        unfold strsOf
        rw [List.getElem?_map, hk]
        rfl
      simpa using e
set_option maxRecDepth 100000 in
set_option maxHeartbeats 2000000 in
theorem cloneS_any (A : Option Addr) (n c : Nat) (l : List ByteArray) (w : World) (h : SL w A n l) (hA : (A = none ∧ c = 0) ∨ 0 < n) (hn : n ≤ 1000) :
    Calls Tryz.prog 20 #[.slice A n c] w fun e w' => (∃ B d, e = .returned (.slice B n d) ∧ SL w' B n l) ∧ Below w.heap.size w w' := by
  obtain ⟨i0, hi, hz0, hz1, hz2⟩ := info_parts info_num
  rcases Nat.eq_zero_or_pos n with h0 | h0
  · subst h0
    obtain ⟨rfl, rfl⟩ : A = none ∧ c = 0 := by
      rcases hA with h1 | h1
      · exact h1
      · omega
    have hnil := fun W : World => Lib.run_eql_slice_nil (P := Tryz.prog) W 39 31 none 0 0 0 0 Tryz.underlying39
    have H := Lib.hid h
    clear h hA
    go_enter Tryz.func20, Tryz.ntmps20
    go_wp2
    go_ret
    exact ⟨⟨_, _, rfl, H.out⟩, Below.refl _ _⟩
  · obtain ⟨_, b, o, _, rfl, hb, _⟩ := h.at_ h0
    have H := Lib.hid h
    have hlen : (strsOf l).length = n := by unfold strsOf; rw [List.length_map]; exact h.1
    have hnil := fun W : World => Lib.run_eql_slice_nil (P := Tryz.prog) W 39 31 (some ⟨b, o, none⟩) n c 0 0 Tryz.underlying39
    clear h hA
    go_enter Tryz.func20, Tryz.ntmps20
    go_wp2_with (at_builtin; refine wpList_append_own _ rfl _ _ 39 rfl w.heap.size 31 i0 (.string ⟨#[]⟩) 1 16 Tryz.underlying39 hi hz0 hz1 hz2 rfl (by decide) _ 0 [] rfl ?c0 ⟨b, o, none⟩ n c (strsOf l) rfl ?c6 ?c1 ?c2 ?c3 ?c4 ?c5 ?_)
    case c0 => exact ⟨by simp, .inr ⟨w.heap.size, 0, #[], rfl, Nat.le_refl _, heap_alloc_new w _, Nat.le_refl _, Nat.zero_le _, by simp, by simp⟩⟩
    case c6 => rw [hlen, Nat.mul_one]
    case c1 =>
      intro j u hu
      have e : (⟨b, o, none⟩ : Addr).add j = ⟨b, o + j, none⟩ := by unfold Addr.add; split <;> simp_all
      rw [e, World.cell?_alloc_lt _ _ _ (by exact hb)]
      unfold strsOf at hu
      rw [List.getElem?_map] at hu
      cases hs : l[j]? with
      | none => rw [hs] at hu; cases hu
      | some s =>
        rw [hs] at hu
        obtain ⟨b', o', e', _, hc⟩ := H.out.2 j s hs
        injection e' with e'
        injection e' with e1 e2
        subst e1 e2
        rw [hc]
        exact hu
    case c2 =>
      intro u hu
      obtain ⟨d, _, rfl⟩ := List.mem_map.1 hu
      rfl
    case c3 => unfold maxLen; omega
    case c4 => omega
    case c5 => simp
    intro v' w1 hown' hgrow _
    try simp only [Nat.zero_add, List.nil_append] at hown'
    obtain ⟨B, d, rfl, hsl, _, _⟩ := SL.of_own hown' H.out.1
    have hbel : Below w.heap.size w w1 := ((Below.refl _ _).alloc (Nat.le_refl _) _).grown hgrow (by simp) (fun k hk => by simp [Value.ownBlock] at hk; omega)
    have Hsl := Lib.hid hsl
    have Hbel := Lib.hid hbel
    clear hsl hbel hown' hgrow hnil
    go_wp2
    go_ret
    exact ⟨⟨_, _, rfl, Hsl.out⟩, Hbel.out⟩
set_option maxRecDepth 100000 in
set_option maxHeartbeats 2000000 in
theorem equalS_any (A B : Option Addr) (n c d : Nat) (l : List ByteArray) (w : World) (h : SL w A n l) (h' : SL w B n l) (hn : n ≤ 1000) :
    Calls Tryz.prog 23 #[.slice A n c, .slice B n d] w fun e w' => e = .returned (.bool true) ∧ Below w.heap.size w w' := by
  have H := Lib.hid h
  have H' := Lib.hid h'
  clear h h'
  go_enter Tryz.func23, Tryz.ntmps23
  go_wp2_with fail
  go_loopw [13] (fun v wr => ∃ k : Nat, k ≤ n ∧ v = .int .i64 (k : Nat) ∧ Below w.heap.size w wr) (fun v _ => n - (intOf v).toNat)
  case atStart => exact ⟨0, Nat.zero_le _, rfl, Below.refl _ _⟩
  case round =>
    obtain ⟨k, hk, rfl, hb⟩ := hrel
    have Hb := Lib.hid hb
    clear hb
    by_cases hlt : k < n
    · obtain ⟨s, b, o, hs, rfl, _, hc⟩ := (H.out.keep Hb.out).at_ hlt
      obtain ⟨s', b', o', hs', rfl, _, hc'⟩ := (H'.out.keep Hb.out).at_ hlt
      obtain rfl : s = s' := by rw [hs] at hs'; injection hs'
      clear hs hs'
      go_wp2_with fail
      go_region
      all_goals
        go_wp2
        go_roundw
        case rel => exact ⟨k + 1, by omega, by go_num, Hb.out.drew⟩
        case measure => simp [intOf]; omega
    · obtain rfl : k = n := by omega
      go_wp2
      go_ret
      exact ⟨rfl, Hb.out⟩
end Go.Proofs.YtjcblcikipmojaaGreatDoor
