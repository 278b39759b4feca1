/- The reference's From. -/
import Derived.Test.YtjcblcikipmojaaGreatDoorList2
import Derived.Lib.ItoaNum
namespace Go.Proofs.YtjcblcikipmojaaGreatDoor
open Go.RowKit
/-- The decimal digits of u, the lowest one first; nothing for 0. -/
def digN (u : Nat) : List Int := if u = 0 then [] else ((u % 10 : Nat) : Int) :: digN (u / 10)
termination_by u
decreasing_by omega
theorem digN_zero : digN 0 = [] := by rw [digN, if_pos rfl]
theorem digN_pos {u : Nat} (h : u ≠ 0) : digN u = ((u % 10 : Nat) : Int) :: digN (u / 10) := by rw [digN, if_neg h]
theorem digN_len : ∀ (k u : Nat), u < 10 ^ k → (digN u).length ≤ k
  | 0, u, h => by
    have : u = 0 := by simpa using h
    subst this; rw [digN_zero]; exact Nat.le_refl _
  | k + 1, u, h => by
    by_cases h0 : u = 0
    · subst h0; rw [digN_zero]; exact Nat.zero_le _
    · rw [digN_pos h0]
      have := digN_len k (u / 10) (by rw [Nat.pow_succ] at h; omega)
      simpa using this
theorem digN_mem (u : Nat) : ∀ x ∈ digN u, 0 ≤ x ∧ x ≤ 9 := by
  induction u using Nat.strongRecOn with
  | _ u ih =>
    intro x hx
    by_cases h0 : u = 0
    · subst h0; rw [digN_zero] at hx; cases hx
    · rw [digN_pos h0] at hx
      rcases List.mem_cons.1 hx with rfl | hx
      · omega
      · exact ih (u / 10) (by omega) x hx
theorem trimTo_full (l : List Int) (h : l.getLast? ≠ some 0) : trimTo l l.length = l.length := by
  rcases List.eq_nil_or_concat l with rfl | ⟨l', x, rfl⟩
  · rfl
  · rw [List.concat_eq_append] at h ⊢
    have hx : x ≠ 0 := by intro e; apply h; simp [e]
    rw [List.length_append]
    show trimTo _ (l'.length + 1) = _
    unfold trimTo
    rw [if_neg (by simpa [List.getD] using hx)]
    rfl
theorem digN_last (u : Nat) : (digN u).getLast? ≠ some 0 := by
  induction u using Nat.strongRecOn with
  | _ u ih =>
    by_cases h0 : u = 0
    · subst h0; rw [digN_zero]; simp
    · rw [digN_pos h0]
      by_cases h1 : u / 10 = 0
      · rw [h1, digN_zero]
        simp
        omega
      · have hne : digN (u / 10) ≠ [] := by rw [digN_pos h1]; simp
        rw [List.getLast?_cons_of_ne_nil hne]
        exact ih (u / 10) (by omega)
theorem digit_byte (u : Nat) : UInt8.ofNat (48 + ((u : Int))).toNat = UInt8.ofNat (48 + u) := by
  congr 1
theorem decDigits_digN (u : Nat) (h : u ≠ 0) : Lib.decDigits u = (digN u).reverse.map fun d => UInt8.ofNat (48 + d).toNat := by
  induction u using Nat.strongRecOn with
  | _ u ih =>
    rw [digN_pos h, Lib.decDigits]
    by_cases h1 : u < 10
    · rw [dif_pos h1, show u / 10 = 0 by omega, digN_zero, show u % 10 = u by omega]
      rw [List.reverse_singleton, List.map_singleton, digit_byte]
    · rw [dif_neg h1, ih (u / 10) (by omega) (by omega), List.reverse_cons, List.map_append, List.map_singleton, digit_byte]
/-- The text of digits is strconv's. -/
theorem textOf_digN (n : Int) : textOf (decide (n < 0)) (digN n.natAbs) = ⟨(Lib.itoa n).toArray⟩ := by
  unfold textOf
  rw [trimTo_full _ (digN_last _)]
  by_cases h0 : n = 0
  · subst h0
    rw [show (0 : Int).natAbs = 0 from rfl, digN_zero]
    simp [Lib.itoa, Lib.decDigits]
  · have hne : n.natAbs ≠ 0 := by omega
    have hl : (digN n.natAbs).length ≠ 0 := by rw [digN_pos hne]; simp
    rw [if_neg hl, List.take_length]
    unfold strOfNums outN Lib.itoa
    by_cases hn : n < 0
    · rw [if_pos hn, decDigits_digN _ hne]
      simp [hn]
    · rw [if_neg hn, show n.toNat = n.natAbs by omega, decDigits_digN _ hne]
      simp [hn]
def FromInv (w0 : World) (n : Int) (d v : Value) (wr : World) : Prop :=
  ∃ (m : Int) (l : List Int), v = .int .i64 m ∧ I64 m ∧ l ++ digN m.natAbs = digN n.natAbs ∧ wr.ownsRow w0.heap.size 3 1 d l.length (ints l) ∧ Below w0.heap.size w0 wr
theorem tmod10 (m : Int) : m.tmod 10 = if m < 0 then -((-m) % 10) else m % 10 := by
  by_cases h : m < 0
  · rw [if_pos h]
    have e : m.tmod 10 = -((-m).tmod 10) := by rw [Int.neg_tmod, Int.neg_neg]
    rw [e, Int.tmod_eq_emod_of_nonneg (by omega)]
  · rw [if_neg h, Int.tmod_eq_emod_of_nonneg (by omega)]
theorem tdiv10 (m : Int) : m.tdiv 10 = if m < 0 then -((-m) / 10) else m / 10 := by
  by_cases h : m < 0
  · rw [if_pos h]
    have e : m.tdiv 10 = -((-m).tdiv 10) := by rw [Int.neg_tdiv, Int.neg_neg]
    rw [e, Int.tdiv_eq_ediv_of_nonneg (by omega)]
  · rw [if_neg h, Int.tdiv_eq_ediv_of_nonneg (by omega)]
theorem tmod_abs (m : Int) : ((m.tmod 10).natAbs : Int) = ((m.natAbs % 10 : Nat) : Int) := by rw [tmod10]; split <;> omega
theorem tmod_bd (m : Int) : -9 ≤ m.tmod 10 ∧ m.tmod 10 ≤ 9 := by rw [tmod10]; split <;> omega
theorem tdiv_abs (m : Int) : (m.tdiv 10).natAbs = m.natAbs / 10 := by rw [tdiv10]; split <;> omega
theorem tdiv_bd {m : Int} (h : I64 m) : I64 (m.tdiv 10) := by
  have h0 := h.1
  have h1 := h.2
  constructor <;> rw [tdiv10] <;> split <;> omega

theorem from_step {w0 wr w1 : World} {n m x : Int} {l : List Int} {u v' : Value} (hm : I64 m) (h0 : m ≠ 0) (hx : x = ((m.natAbs % 10 : Nat) : Int)) (hl : l ++ digN m.natAbs = digN n.natAbs)
    (hown : wr.ownsRow w0.heap.size 3 1 u l.length (ints l)) (hown' : w1.ownsRow w0.heap.size 3 1 v' (l.length + 1) (ints l ++ [.int .i64 x]))
    (hgrow : (wr.alloc (.cells #[.int .i64 x] 3)).grownBy w1 u.ownBlock) (hbel : Below w0.heap.size w0 wr) : FromInv w0 n v' (.int .i64 (m.tdiv 10)) w1 := by
  refine ⟨m.tdiv 10, l ++ [x], rfl, tdiv_bd hm, ?_, by simpa [ints] using hown', (hbel.alloc hbel.size _).grown hgrow (by simp; have := hbel.size; omega) (fun k hk => own_ge hown hk)⟩
  rw [tdiv_abs, List.append_assoc, ← hl, digN_pos (show m.natAbs ≠ 0 by omega), hx]
  rfl
/-- An owned row reads as a list. -/
theorem own_isL {w : World} {base : Nat} {e : TypeId} {v : Value} {n : Nat} {xs : List Value} (h : w.ownsRow base e 1 v n xs) : ∃ A c, v = .slice A n c ∧ IsL w A n c xs ∧ c ≤ 9223372036854775807 := by
  have hl : xs.length = n := by simpa using h.1
  rcases h.2 with ⟨rfl, rfl⟩ | ⟨g, cap, cur, rfl, hg, hh, hnc, hcm, hcs, hx⟩
  · exact ⟨none, 0, rfl, ⟨hl, Nat.le_refl _, fun h => by omega⟩, by omega⟩
  · refine ⟨_, cap, rfl, ⟨hl, hnc, fun _ => ⟨g, 0, rfl, ?_, fun j u hu => ?_⟩⟩, ?_⟩
    · rcases Nat.lt_or_ge g w.heap.size with h | h
      · exact h
      · rw [Array.getElem?_eq_none h] at hh; cases hh
    · rw [cell_of_row w g (0 + j) cur e (0, 0) hh]
      rw [← hx, List.getElem?_take] at hu
      split at hu
      · simpa using hu
      · cases hu
    · unfold maxLen at hcm; omega

set_option maxRecDepth 100000 in
set_option maxHeartbeats 4000000 in
theorem refFrom_any (n : Int) (w : World) (hn : I64 n) :
    Calls Tryz.prog 36 #[.int .i64 n] w fun e w' => e = .returned (.string (textOf (decide (n < 0)) (digN n.natAbs))) ∧ Below w.heap.size w w' := by
  obtain ⟨i0, hi, hz0, hz1, hz2⟩ := info_parts info_int
  have hn0 := hn.1
  have hn1 := hn.2
  have Hn := Lib.hid hn
  clear hn
  go_enter Tryz.func36, Tryz.ntmps36
  go_wp2_with fail
  go_loopw [3, 4] (fun d v wr => FromInv w n d v wr) (fun _ v _ => (intOf v).natAbs)
  case atStart => exact ⟨n, [], rfl, Hn.out, rfl, World.ownsRow_nil _ _ _ _, Below.refl _ _⟩
  case round =>
    obtain ⟨m, l, rfl, hm, hl, hown, hbel⟩ := hrel
    have hm0 := hm.1
    have hm1 := hm.2
    have hsz := hbel.size
    have hlen : l.length ≤ 20 := by
      have h1 := digN_len 20 n.natAbs (by omega)
      rw [← hl, List.length_append] at h1
      omega
    have Hl := Lib.hid hl
    have Hown := Lib.hid hown
    have Hbel := Lib.hid hbel
    have Hm := Lib.hid hm
    clear hl hown hbel hm
    by_cases h0 : m = 0
    · subst h0
      have hll : l = digN n.natAbs := by have := Hl.out; rw [show (0 : Int).natAbs = 0 from rfl, digN_zero, List.append_nil] at this; exact this
      subst hll
      obtain ⟨A, c, rfl, hisl, hc⟩ := own_isL Hown.out
      have Hi := Lib.hid hisl
      clear hisl
      go_wp2_with fail
      refine (refText_any _ A _ c _ _ Hi.out (by omega) hc (digN_mem _)).mono ?_
      rintro e w2 ⟨rfl, hb2⟩
      have hfin := Hbel.out.trans (hb2.mono hsz)
      have Hfin := Lib.hid hfin
      clear hfin hb2
      go_wp2
      go_ret
      exact ⟨rfl, Hfin.out⟩
    · have t0 : (m == 0) = false := by rw [beq_eq_false_iff_ne]; exact h0
      obtain ⟨hb1, hb2⟩ := tmod_bd m
      by_cases hs : m.tmod 10 < 0
      · go_wp2_with (at_builtin; refine wpList_append_own _ rfl _ _ 85 rfl w.heap.size 3 i0 (.int .i64 0) 1 8 Tryz.underlying85 hi hz0 hz1 hz2 rfl (by decide) _ _ _ rfl (Hown.out.alloc _) ⟨wr.heap.size, 0, none⟩ 1 1 [.int .i64 (-m.tmod 10)] rfl rfl (fun k u hu => by match k, hu with | 0, hu => simp at hu; subst hu; simp [Addr.add]) (fun u hu => by simp at hu; subst hu; rfl) (by unfold maxLen; omega) (by omega) (by simp; omega) ?_)
        intro v' w1 hown' hgrow _
        have hfin := from_step Hm.out h0 (by have := tmod_abs m; omega) Hl.out Hown.out hown' hgrow Hbel.out
        have Hfin := Lib.hid hfin
        clear hfin hown' hgrow
        go_wp2
        go_roundw
        case rel => exact Hfin.out
        case measure => simp only [intOf]; rw [tdiv_abs]; omega
      · go_wp2_with (at_builtin; refine wpList_append_own _ rfl _ _ 85 rfl w.heap.size 3 i0 (.int .i64 0) 1 8 Tryz.underlying85 hi hz0 hz1 hz2 rfl (by decide) _ _ _ rfl (Hown.out.alloc _) ⟨wr.heap.size, 0, none⟩ 1 1 [.int .i64 (m.tmod 10)] rfl rfl (fun k u hu => by match k, hu with | 0, hu => simp at hu; subst hu; simp [Addr.add]) (fun u hu => by simp at hu; subst hu; rfl) (by unfold maxLen; omega) (by omega) (by simp; omega) ?_)
        intro v' w1 hown' hgrow _
        have hfin := from_step Hm.out h0 (by have := tmod_abs m; omega) Hl.out Hown.out hown' hgrow Hbel.out
        have Hfin := Lib.hid hfin
        clear hfin hown' hgrow
        go_wp2
        go_roundw
        case rel => exact Hfin.out
        case measure => simp only [intOf]; rw [tdiv_abs]; omega
end Go.Proofs.YtjcblcikipmojaaGreatDoor
