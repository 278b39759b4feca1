/- Sums, differences and products of numbers in memory. -/
import Derived.Test.YtegndbiglehacaaDoorProd
import Derived.Test.YtegndbiglehacaaDoorSub
import Derived.Test.YtegndbiglehacaaDoorWrite
import Derived.Test.YtegndbiglehacaaDoorNatB
import Derived.Laws.CopyRow
namespace Go.Proofs.YtegndbiglehacaaDoor
open Go.RowKit

theorem IsNat.len_le {B : Nat} {w : World} {A : Option Addr} {n c m k : Nat} {xs : List Nat} (h : IsNat B w A n c xs m) (hm : m < base k) : n ≤ k := by
  rcases h.tight with h0 | h0
  · have := h.size; omega
  · rw [h.val, h.size] at h0
    rcases Nat.lt_or_ge k n with hlt | hge
    · have := base_le (show k ≤ n - 1 by omega)
      omega
    · exact hge
theorem IsNat.zero_iff {B : Nat} {w : World} {A : Option Addr} {n c m : Nat} {xs : List Nat} (h : IsNat B w A n c xs m) : n = 0 ↔ m = 0 := by
  have hs := h.size
  constructor
  · intro h0
    subst h0
    have : xs = [] := List.eq_nil_of_length_eq_zero hs
    rw [← h.val, this]
    rfl
  · intro h0
    subst h0
    have := h.len_le (k := 0) (by rw [base_zero]; decide)
    omega
/-- A new number, made by a call. -/
def NewNat (m : Nat) (w : World) (e : Ending) (w' : World) : Prop :=
  ∃ (A : Option Addr) (n c : Nat) (xs : List Nat), e = .returned (.slice A n c) ∧ IsNat w.heap.size w' A n c xs m ∧ Below w.heap.size w w'
theorem trimW_tight {l : List Nat} {n : Nat} (h : n ≤ l.length) : Tight (l.take (trimW l n)) := by
  have hle := trimW_le l n
  have hlen : (l.take (trimW l n)).length = trimW l n := by simp; omega
  rcases Nat.eq_zero_or_pos (trimW l n) with h0 | h0
  · exact .inl (by omega)
  · refine .inr ?_
    rw [hlen]
    have hlast : l.getD (trimW l n - 1) 0 ≠ 0 := by
      clear hlen hle
      induction n with
      | zero => simp [trimW] at h0
      | succ n ih =>
        unfold trimW at h0 ⊢
        by_cases hz : l.getD n 0 = 0
        · rw [if_pos hz] at h0 ⊢; exact ih (by omega) h0
        · rw [if_neg hz]; exact hz
    obtain ⟨k, hk⟩ : ∃ k, trimW l n = k + 1 := ⟨trimW l n - 1, by omega⟩
    rw [hk] at hlast hle ⊢
    rw [show k + 1 - 1 = k from rfl] at hlast ⊢
    obtain ⟨d, hd⟩ : ∃ d, l.getD k 0 = d := ⟨_, rfl⟩
    rw [take_up (by omega) hd, natVal_snoc, List.length_take, Nat.min_eq_left (by omega)]
    rw [hd] at hlast
    have : base k * 1 ≤ base k * d := Nat.mul_le_mul_left _ (by omega)
    omega
/-- A block of words, cut to its number. -/
theorem nat_of_blk {B : Nat} {w : World} {g n c m : Nat} {zs : List Nat} (hb : Blk w g zs) (hn : zs.length = n) (hc : n ≤ c) (hc2 : c ≤ 9223372036854775807) (hlen : n < 1000) (hw : Words zs) (hv : natVal zs = m) (hB : B ≤ g) :
    IsNat B w (some ⟨g, 0, none⟩) (trimW zs n) c (zs.take (trimW zs n)) m := by
  have hle := trimW_le zs n
  have h := hb.isL (o := 0) (n := trimW zs n) (c := c) (by omega) (by omega)
  rw [List.drop_zero] at h
  refine ⟨h, hc2, by omega, words_take hw _, trimW_tight (by omega), ?_, fun a e => by injection e with e; subst e; exact hB⟩
  rw [trimW_val zs n (by omega), ← hn, List.take_length, hv]
/-- Zeros that make has made. -/
theorem zeros_u64 (n : Nat) : (madeCells #[.int .u64 0] n).toList = u64s (List.replicate n 0) := by
  unfold u64s madeCells
  apply List.ext_getElem
  · simp
  · intro i h1 h2
    simp [Nat.mod_one]
theorem natVal_zeros (n : Nat) : natVal (List.replicate n 0) = 0 := by
  induction n with
  | zero => rfl
  | succ n ih => rw [List.replicate_succ, natVal, ih]
theorem words_zeros (n : Nat) : Words (List.replicate n 0) := fun d hd => by rw [(List.mem_replicate.1 hd).2]; decide
theorem roomAt_row (w : World) (g : Nat) (cs : Array Value) (_k : Nat) (cur : Array Value) (t : TypeId) (hg : w.heap[g]? = some (.cells cur t (0, 0))) (hk : cs.size = cur.size) : roomAt (w.setRow g cs) g = roomAt w g := by
  unfold roomAt
  rw [hg]
  simp [World.setRow, Array.getElem?_modify, hg, hk]
/-- copy of words to the head of a block. -/
theorem copy_words {w : World} {g N C : Nat} {zs : List Nat} {A : Option Addr} {n c : Nat} {xs : List Nat} (hb : Blk w g zs) (hN : N ≤ zs.length) (hl : IsL w A n c (u64s xs)) (h0 : 0 < n) (hn : n ≤ N) :
    ∃ w', (∀ ty, (Builtin.copy_ #[60, 60] ty #[.slice (some ⟨g, 0, none⟩) N C, .slice A n c]).run Tryd.prog w = .ok (goInt n) w') ∧ Blk w' g (put zs 0 xs) ∧ Only g w w' := by
  obtain ⟨cur, hg, hcur⟩ := hb
  obtain ⟨b, o, rfl, hbw, hc⟩ := hl.2.2 h0
  have hlen : (u64s xs).length = n := hl.1
  have hxl : xs.length = n := by rwa [u64s_length] at hlen
  have hroom : zs.length ≤ cur.size := by
    have := congrArg List.length hcur
    rw [List.length_take, u64s_length] at this
    have e : cur.toList.length = cur.size := by simp
    omega
  refine ⟨w.setRow g ((u64s xs) ++ cur.toList.drop (0 + (u64s xs).length)).toArray, fun ty => ?_, ?_, ?_⟩
  · have h := run_copy_row (P := Tryd.prog) w 60 60 ty 75 g 0 N C ⟨b, o, none⟩ n c cur 75 (u64s xs) Tryd.underlying60 (by kernel_rfl) hg
      (by rw [hlen]; show n = min n N; omega) (fun j v hj => by
        have e : (⟨b, o, none⟩ : Addr).add j = ⟨b, o + j, none⟩ := by unfold Addr.add; split <;> simp_all
        rw [e]; exact hc j v hj) (by omega) (fun v hv => by obtain ⟨d, _, rfl⟩ := List.mem_map.1 hv; rfl)
    rw [hlen, List.take_zero, List.nil_append] at h
    rw [hlen]
    exact h ▸ rfl
  · refine ⟨_, by simp [World.setRow, Array.getElem?_modify, hg]; rfl, ?_⟩
    have e : put zs 0 xs = xs ++ zs.drop xs.length := by unfold put; simp
    rw [e, List.length_append, List.length_drop]
    simp only [hlen]
    rw [show xs.length + (zs.length - xs.length) = zs.length by omega]
    rw [List.take_append, hlen, List.take_of_length_le (by omega)]
    have e2 : u64s (xs ++ zs.drop xs.length) = u64s xs ++ (u64s zs).drop n := by simp [u64s, hxl]
    rw [e2, ← hcur, List.drop_take]
  · refine ⟨rfl, rfl, rfl, by simp [World.setRow], fun k hk hkg => ?_, fun _ => ?_⟩
    · simp [World.setRow, Array.getElem?_modify, Ne.symm hkg]
    · refine roomAt_row w g _ 0 cur _ hg ?_
      simp
      omega
end Go.Proofs.YtegndbiglehacaaDoor
