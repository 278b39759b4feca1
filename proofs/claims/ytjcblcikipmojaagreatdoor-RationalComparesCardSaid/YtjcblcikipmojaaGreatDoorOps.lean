/- Sums, differences and products of numbers in memory. -/
import Derived.Test.YtjcblcikipmojaaGreatDoorAdd
import Derived.Test.YtjcblcikipmojaaGreatDoorSub
import Derived.Test.YtjcblcikipmojaaGreatDoorWrite
import Derived.Test.YtjcblcikipmojaaGreatDoorNatB
import Derived.Laws.CopyRow
namespace Go.Proofs.YtjcblcikipmojaaGreatDoor
open Go.RowKit

theorem prod_parts {d m q x h l s f s2 f2 : Nat} (hd : d < 18446744073709551616) (hm : m < 18446744073709551616) (hq : q < 18446744073709551616) (hx : x < 18446744073709551616) (hh : d * m / 18446744073709551616 = h) (hl : d * m % 18446744073709551616 = l)
    (hs : (l + q + 0) % 18446744073709551616 = s) (hf : (l + q + 0) / 18446744073709551616 = f) (hs2 : (s + x + 0) % 18446744073709551616 = s2) (hf2 : (s + x + 0) / 18446744073709551616 = f2) :
    s2 + 18446744073709551616 * (h + f + f2) = x + d * m + q ∧ h + f + f2 < 18446744073709551616 ∧ s2 < 18446744073709551616 ∧ s < 18446744073709551616 ∧ h + f < 18446744073709551616 := by
  have h1 : d * m ≤ 18446744073709551615 * 18446744073709551615 := Nat.mul_le_mul (by omega) (by omega)
  generalize d * m = t at *
  omega
def ProdInv (w0 : World) (g o n : Nat) (xs ys : List Nat) (m : Nat) (vi vp : Value) (wr : World) : Prop :=
  ∃ (rs : List Nat) (p : Nat), rs.length ≤ n ∧ vi = .int .i64 (rs.length : Nat) ∧ vp = .int .u64 (p : Nat) ∧ p < 18446744073709551616 ∧ Words rs ∧ natVal rs + base rs.length * p = natVal ((xs.drop o).take rs.length) + natVal (ys.take rs.length) * m ∧ Blk wr g (put xs o rs) ∧ Only g w0 wr
theorem prod_step {w0 wr : World} {g o n k x d m q h l s f s2 f2 j : Nat} {xs ys rs : List Nat} (hk : rs.length = k) (hkn : k < n) (ho : o + n ≤ xs.length) (hx : xs.getD (o + k) 0 = x) (hy : ys.getD k 0 = d) (hx1 : x < 18446744073709551616) (hd : d < 18446744073709551616) (hm : m < 18446744073709551616) (hq : q < 18446744073709551616)
    (hh : d * m / 18446744073709551616 = h) (hl : d * m % 18446744073709551616 = l) (hs : (l + q + 0) % 18446744073709551616 = s) (hf : (l + q + 0) / 18446744073709551616 = f) (hs2 : (s + x + 0) % 18446744073709551616 = s2) (hf2 : (s + x + 0) / 18446744073709551616 = f2)
    (hw : Words rs) (hv : natVal rs + base rs.length * q = natVal ((xs.drop o).take rs.length) + natVal (ys.take rs.length) * m) (hb : Blk wr g (put xs o rs)) (ho2 : Only g w0 wr) :
    ProdInv w0 g o n xs ys m (.int .i64 ((k : Int) + 1)) (.int .u64 ((h : Int) + f + f2)) ((wr.drewN j).setCell ⟨g, o + k, none⟩ (.int .u64 (s2 : Int))) := by
  obtain ⟨e1, e2, e3, _⟩ := prod_parts hd hm hq hx1 hh hl hs hf hs2 hf2
  subst hk
  refine ⟨rs ++ [s2], h + f + f2, by simp; omega, by simp, by simp, e2, words_snoc hw e3, ?_, ?_, (ho2.drewN j).set_ _ _⟩
  · rw [natVal_snoc, List.length_append, List.length_singleton, base_succ, take_next (by omega) hx, natVal_snoc, take_len (by omega), take_up0 hy]
    have e4 : base rs.length * s2 + 18446744073709551616 * base rs.length * (h + f + f2) = base rs.length * (x + d * m + q) := by rw [← e1]; simp only [Nat.mul_add, Nat.mul_assoc, Nat.mul_left_comm]
    rw [Nat.add_assoc, e4, Nat.mul_add, Nat.mul_add, Nat.add_mul, Nat.mul_assoc]
    omega
  · rw [← put_set (by omega)]
    exact (hb.drewN j).set_ _ (by rw [put_length (by omega)]; omega)

set_option maxRecDepth 100000 in
set_option maxHeartbeats 4000000 in
theorem addProduct_any (g o n c n' c' : Nat) (A' : Option Addr) (xs ys : List Nat) (m : Nat) (w : World) (hb : Blk w g xs) (hl : IsL w A' n' c' (u64s ys)) (hA : ∀ a : Addr, A' = some a → a.block ≠ g) (ho : o + n ≤ xs.length) (hn' : n' ≤ n) (hx : Words xs) (hy : Words ys) (hm : m < 18446744073709551616) (hn : n < 1000000) (_hoo : o < 1000000) (h0 : 0 < n') :
    Calls Tryz.prog 147 #[.slice (some ⟨g, o, none⟩) n c, .slice A' n' c', .int .u64 (m : Nat)] w fun e w' =>
      ∃ (rs : List Nat) (q : Nat), e = .returned (.int .u64 (q : Nat)) ∧ rs.length = n' ∧ q < 18446744073709551616 ∧ Words rs ∧ natVal rs + base n' * q = natVal ((xs.drop o).take n') + natVal ys * m ∧ Blk w' g (put xs o rs) ∧ Only g w w' := by
  have hlen : ys.length = n' := by have := hl.1; rwa [u64s_length] at this
  obtain ⟨b', o', rfl, hb', hc'⟩ := hl.2.2 h0
  have hne : b' ≠ g := hA _ rfl
  have Hb := Lib.hid hb
  have Hx := Lib.hid hx
  have Hy := Lib.hid hy
  have Hlen := Lib.hid hlen
  have Hc := Lib.hid (show ∀ k : Nat, k < n' → w.cell? ⟨b', o' + k, none⟩ = some (.int .u64 ((ys.getD k 0 : Nat) : Int)) from fun k hk => hc' k _ (by simp [u64s, show k < ys.length by omega]))
  have hle := hl.2.1
  clear hb hx hy hl hA hlen hc'
  go_enter Tryz.func147, Tryz.ntmps147
  go_wp2_with fail
  go_loopw [15, 7] (fun vi vp wr => ProdInv w g o n' xs ys m vi vp wr) (fun vi _ _ => n' - (intOf vi).toNat)
  case atStart => exact ⟨[], 0, Nat.zero_le _, rfl, rfl, by decide, fun d hd => absurd hd (by simp), by simp [natVal, base_zero], by rw [put_nil]; exact Hb.out, Only.refl _ _⟩
  case round =>
    obtain ⟨rs, q, hkn, rfl, rfl, hq, hw, hv, hblk, honly⟩ := hrel
    have Hw := Lib.hid hw
    have Hv := Lib.hid hv
    have Hblk := Lib.hid hblk
    have Honly := Lib.hid honly
    obtain ⟨k, hk⟩ : ∃ k, rs.length = k := ⟨_, rfl⟩
    have Hk := Lib.hid hk
    rw [hk] at hkn ⊢
    by_cases hlt : k < n'
    · have hcell := hblk.cell (i := o + k) (by rw [put_length (by omega)]; omega)
      rw [put_get (by omega) (by omega)] at hcell
      have hfz := hblk.frozen (o + k)
      have hcy := (honly.cell (o := o' + k) hb' hne).trans (Hc.out k hlt)
      have hx1 := word_at Hx.out (o + k)
      have hy1 := word_at Hy.out k
      obtain ⟨x, hx⟩ : ∃ x, xs.getD (o + k) 0 = x := ⟨_, rfl⟩
      obtain ⟨d, hd⟩ : ∃ d, ys.getD k 0 = d := ⟨_, rfl⟩
      rw [hx] at hcell hx1
      rw [hd] at hcy hy1
      have HX := Lib.hid hx
      have HY := Lib.hid hd
      clear hblk honly hw hv hk hx hd
      obtain ⟨h, hh⟩ : ∃ h, d * m / 18446744073709551616 = h := ⟨_, rfl⟩
      obtain ⟨l, hl⟩ : ∃ l, d * m % 18446744073709551616 = l := ⟨_, rfl⟩
      obtain ⟨s, hs⟩ : ∃ s, (l + q + 0) % 18446744073709551616 = s := ⟨_, rfl⟩
      obtain ⟨f, hf⟩ : ∃ f, (l + q + 0) / 18446744073709551616 = f := ⟨_, rfl⟩
      obtain ⟨s2, hs2⟩ : ∃ s2, (s + x + 0) % 18446744073709551616 = s2 := ⟨_, rfl⟩
      obtain ⟨f2, hf2⟩ : ∃ f2, (s + x + 0) / 18446744073709551616 = f2 := ⟨_, rfl⟩
      have Hmul := Lib.hid (mul64_at d m h l hy1 hm hh hl)
      have hadd : ∀ W : World, (callFunc 169 #[.int .u64 (l : Int), .int .u64 (q : Int), .int .u64 0]).run Tryz.prog W = .ok (.value (.tuple #[.int .u64 (s : Int), .int .u64 (f : Int)])) W := add64_at l q 0 s f (by omega) hs hf
      have hadd2 : ∀ W : World, (callFunc 169 #[.int .u64 (s : Int), .int .u64 (x : Int), .int .u64 0]).run Tryz.prog W = .ok (.value (.tuple #[.int .u64 (s2 : Int), .int .u64 (f2 : Int)])) W := add64_at s x 0 s2 f2 (by omega) hs2 hf2
      obtain ⟨_, hle, _, _, hle2⟩ := prod_parts hy1 hm hq hx1 hh hl hs hf hs2 hf2
      have hle' : (h : Int) + f + f2 < 18446744073709551616 := by omega
      have hle2' : (h : Int) + f < 18446744073709551616 := by omega
      have Hh := Lib.hid hh
      have Hl := Lib.hid hl
      have Hs := Lib.hid hs
      have Hf := Lib.hid hf
      have Hs2 := Lib.hid hs2
      have Hf2 := Lib.hid hf2
      clear hh hl hs hf hs2 hf2
      go_wp2_with fail
      refine (Hmul.out _).mono ?_
      rintro e w' ⟨rfl, rfl⟩
      go_wp2_with fail
      exact ⟨prod_step (j := 0) Hk.out hlt (by omega) HX.out HY.out hx1 hy1 hm hq Hh.out Hl.out Hs.out Hf.out Hs2.out Hf2.out Hw.out Hv.out Hblk.out Honly.out, by simp [intOf] <;> omega⟩
    · obtain rfl : k = n' := by omega
      have Hys := Lib.hid (show ys.take k = ys from List.take_of_length_le (by rw [Hlen.out]; exact Nat.le_refl _))
      clear hblk honly hw hv hk
      go_wp2
      go_ret
      exact ⟨rs, q, rfl, Hk.out, hq, Hw.out, by have h1 := Hv.out; rw [Hk.out, Hys.out] at h1; exact h1, Hblk.out, Honly.out⟩
theorem IsNat.len_le {B : Nat} {w : World} {A : Option Addr} {n c m k : Nat} {xs : List Nat} (h : IsNat B w A n c xs m) (hm : m < base k) : n ≤ k := by
  rcases h.tight with h0 | h0
  · have := h.size; omega
  · rw [h.val, h.size] at h0
    rcases Nat.lt_or_ge k n with hlt | hge
    · have := base_le (show k ≤ n - 1 by omega)
      omega
    · exact hge
theorem IsNat.zero_iff {B : Nat} {w : World} {A : Option Addr} {n c m : Nat} {xs : List Nat} (h : IsNat B w A n c xs m) : n = 0 ↔ m = 0 := by
  have hs := h.size
  constructor
  · intro h0
    subst h0
    have : xs = [] := List.eq_nil_of_length_eq_zero hs
    rw [← h.val, this]
    rfl
  · intro h0
    subst h0
    have := h.len_le (k := 0) (by rw [base_zero]; decide)
    omega
/-- A new number, made by a call. -/
def NewNat (m : Nat) (w : World) (e : Ending) (w' : World) : Prop :=
  ∃ (A : Option Addr) (n c : Nat) (xs : List Nat), e = .returned (.slice A n c) ∧ IsNat w.heap.size w' A n c xs m ∧ Below w.heap.size w w'
theorem trimW_tight {l : List Nat} {n : Nat} (h : n ≤ l.length) : Tight (l.take (trimW l n)) := by
  have hle := trimW_le l n
  have hlen : (l.take (trimW l n)).length = trimW l n := by simp; omega
  rcases Nat.eq_zero_or_pos (trimW l n) with h0 | h0
  · exact .inl (by omega)
  · refine .inr ?_
    rw [hlen]
    have hlast : l.getD (trimW l n - 1) 0 ≠ 0 := by
      clear hlen hle
      induction n with
      | zero => simp [trimW] at h0
      | succ n ih =>
        unfold trimW at h0 ⊢
        by_cases hz : l.getD n 0 = 0
        · rw [if_pos hz] at h0 ⊢; exact ih (by omega) h0
        · rw [if_neg hz]; exact hz
    obtain ⟨k, hk⟩ : ∃ k, trimW l n = k + 1 := ⟨trimW l n - 1, by omega⟩
    rw [hk] at hlast hle ⊢
    rw [show k + 1 - 1 = k from rfl] at hlast ⊢
    obtain ⟨d, hd⟩ : ∃ d, l.getD k 0 = d := ⟨_, rfl⟩
    rw [take_up (by omega) hd, natVal_snoc, List.length_take, Nat.min_eq_left (by omega)]
    rw [hd] at hlast
    have : base k * 1 ≤ base k * d := Nat.mul_le_mul_left _ (by omega)
    omega
/-- A block of words, cut to its number. -/
theorem nat_of_blk {B : Nat} {w : World} {g n c m : Nat} {zs : List Nat} (hb : Blk w g zs) (hn : zs.length = n) (hc : n ≤ c) (hc2 : c ≤ 9223372036854775807) (hlen : n < 1000) (hw : Words zs) (hv : natVal zs = m) (hB : B ≤ g) :
    IsNat B w (some ⟨g, 0, none⟩) (trimW zs n) c (zs.take (trimW zs n)) m := by
  have hle := trimW_le zs n
  have h := hb.isL (o := 0) (n := trimW zs n) (c := c) (by omega) (by omega)
  rw [List.drop_zero] at h
  refine ⟨h, hc2, by omega, words_take hw _, trimW_tight (by omega), ?_, fun a e => by injection e with e; subst e; exact hB⟩
  rw [trimW_val zs n (by omega), ← hn, List.take_length, hv]
/-- Zeros that make has made. -/
theorem zeros_u64 (n : Nat) : (madeCells #[.int .u64 0] n).toList = u64s (List.replicate n 0) := by
  unfold u64s madeCells
  apply List.ext_getElem
  · simp
  · intro i h1 h2
    simp [Nat.mod_one]
theorem natVal_zeros (n : Nat) : natVal (List.replicate n 0) = 0 := by
  induction n with
  | zero => rfl
  | succ n ih => rw [List.replicate_succ, natVal, ih]
theorem words_zeros (n : Nat) : Words (List.replicate n 0) := fun d hd => by rw [(List.mem_replicate.1 hd).2]; decide
theorem roomAt_row (w : World) (g : Nat) (cs : Array Value) (_k : Nat) (cur : Array Value) (t : TypeId) (hg : w.heap[g]? = some (.cells cur t (0, 0))) (hk : cs.size = cur.size) : roomAt (w.setRow g cs) g = roomAt w g := by
  unfold roomAt
  rw [hg]
  simp [World.setRow, Array.getElem?_modify, hg, hk]
/-- copy of words to the head of a block. -/
theorem copy_words {w : World} {g N C : Nat} {zs : List Nat} {A : Option Addr} {n c : Nat} {xs : List Nat} (hb : Blk w g zs) (hN : N ≤ zs.length) (hl : IsL w A n c (u64s xs)) (h0 : 0 < n) (hn : n ≤ N) :
    ∃ w', (∀ ty, (Builtin.copy_ #[81, 81] ty #[.slice (some ⟨g, 0, none⟩) N C, .slice A n c]).run Tryz.prog w = .ok (goInt n) w') ∧ Blk w' g (put zs 0 xs) ∧ Only g w w' := by
  obtain ⟨cur, hg, hcur⟩ := hb
  obtain ⟨b, o, rfl, hbw, hc⟩ := hl.2.2 h0
  have hlen : (u64s xs).length = n := hl.1
  have hxl : xs.length = n := by rwa [u64s_length] at hlen
  have hroom : zs.length ≤ cur.size := by
    have := congrArg List.length hcur
    rw [List.length_take, u64s_length] at this
    have e : cur.toList.length = cur.size := by simp
    omega
  refine ⟨w.setRow g ((u64s xs) ++ cur.toList.drop (0 + (u64s xs).length)).toArray, fun ty => ?_, ?_, ?_⟩
  · have h := run_copy_row (P := Tryz.prog) w 81 81 ty 106 g 0 N C ⟨b, o, none⟩ n c cur 106 (u64s xs) Tryz.underlying81 (by kernel_rfl) hg
      (by rw [hlen]; show n = min n N; omega) (fun j v hj => by
        have e : (⟨b, o, none⟩ : Addr).add j = ⟨b, o + j, none⟩ := by unfold Addr.add; split <;> simp_all
        rw [e]; exact hc j v hj) (by omega) (fun v hv => by obtain ⟨d, _, rfl⟩ := List.mem_map.1 hv; rfl)
    rw [hlen, List.take_zero, List.nil_append] at h
    rw [hlen]
    exact h ▸ rfl
  · refine ⟨_, by simp [World.setRow, Array.getElem?_modify, hg]; rfl, ?_⟩
    have e : put zs 0 xs = xs ++ zs.drop xs.length := by unfold put; simp
    rw [e, List.length_append, List.length_drop]
    simp only [hlen]
    rw [show xs.length + (zs.length - xs.length) = zs.length by omega]
    rw [List.take_append, hlen, List.take_of_length_le (by omega)]
    have e2 : u64s (xs ++ zs.drop xs.length) = u64s xs ++ (u64s zs).drop n := by simp [u64s, hxl]
    rw [e2, ← hcur, List.drop_take]
  · refine ⟨rfl, rfl, rfl, by simp [World.setRow], fun k hk hkg => ?_, fun _ => ?_⟩
    · simp [World.setRow, Array.getElem?_modify, Ne.symm hkg]
    · refine roomAt_row w g _ 0 cur _ hg ?_
      simp
      omega
end Go.Proofs.YtjcblcikipmojaaGreatDoor
