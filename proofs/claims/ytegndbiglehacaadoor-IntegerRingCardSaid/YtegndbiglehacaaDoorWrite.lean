/- writeDigits: the decimal digits of words. -/
import Derived.Test.YtegndbiglehacaaDoorNatA
import Derived.Test.YtegndbiglehacaaDoorNatB
namespace Go.Proofs.YtegndbiglehacaaDoor
open Go.RowKit

theorem natVal_zero_iff {l : List Nat} : natVal l = 0 ↔ ∀ d ∈ l, d = 0 := by
  induction l with
  | nil => simp [natVal]
  | cons d r ih =>
    rw [natVal]
    constructor
    · intro h
      have h2 := ih.1 (by omega)
      intro x hx
      rcases List.mem_cons.1 hx with rfl | hx
      · omega
      · exact h2 x hx
    · intro h
      have h1 := h d (List.mem_cons_self ..)
      have h2 := ih.2 (fun x hx => h x (List.mem_cons_of_mem _ hx))
      omega
theorem trimW_val (l : List Nat) : ∀ n, n ≤ l.length → natVal (l.take (trimW l n)) = natVal (l.take n)
  | 0, _ => rfl
  | n + 1, h => by
    unfold trimW
    by_cases h0 : l.getD n 0 = 0
    · rw [if_pos h0, trimW_val l n (by omega), List.take_succ_eq_append_getElem (by omega), natVal_snoc]
      have : l[n] = 0 := by simpa [List.getD, show n < l.length by omega] using h0
      rw [this]; simp
    · rw [if_neg h0]
theorem trimW_pos {l : List Nat} {n : Nat} (h : n ≤ l.length) : 0 < trimW l n ↔ 0 < natVal (l.take n) := by
  rw [← trimW_val l n h]
  constructor
  · intro hp
    obtain ⟨k, hk⟩ : ∃ k, trimW l n = k + 1 := ⟨trimW l n - 1, by omega⟩
    rw [hk]
    have hle := trimW_le l n
    have hne : l.getD k 0 ≠ 0 := by
      clear hp h
      induction n with
      | zero => simp [trimW] at hk
      | succ n ih =>
        unfold trimW at hk
        split at hk
        · exact ih hk (trimW_le l n)
        · obtain rfl : n = k := by omega
          assumption
    rw [List.take_succ_eq_append_getElem (by omega), natVal_snoc]
    have : l[k]'(by omega) ≠ 0 := by simpa [List.getD, show k < l.length by omega] using hne
    have hb : 0 < base (l.take k).length * l[k]'(by omega) := Nat.mul_pos (base_pos _) (Nat.pos_of_ne_zero this)
    omega
  · intro hp
    rcases Nat.eq_zero_or_pos (trimW l n) with h0 | h0
    · rw [h0] at hp; simp [natVal] at hp
    · exact h0
theorem digN_mono : ∀ (b a : Nat), a ≤ b → (digN a).length ≤ (digN b).length := by
  intro b
  induction b using Nat.strongRecOn with
  | _ b ih =>
    intro a hab
    by_cases ha : a = 0
    · subst ha; rw [digN_zero]; exact Nat.zero_le _
    · rw [digN_pos ha, digN_pos (show b ≠ 0 by omega)]
      have := ih (b / 10) (by omega) (a / 10) (Nat.div_le_div_right hab)
      simpa using this
theorem digN_less {a b : Nat} (hb : 0 < b) (h : a ≤ b / 10) : (digN a).length < (digN b).length := by
  rw [digN_pos (show b ≠ 0 by omega)]
  have := digN_mono (b / 10) a h
  simp; omega
/-- One digit more is written. -/
theorem write_digit {p N i : Nat} (hi : i < 19) (h : p + 10 ^ (19 - i) * N ≠ 0) : digN (p + 10 ^ (19 - i) * N) = ((p % 10 : Nat) : Int) :: digN (p / 10 + 10 ^ (19 - (i + 1)) * N) := by
  rw [digN_pos h]
  have e : 10 ^ (19 - i) * N = 10 * (10 ^ (19 - (i + 1)) * N) := by rw [show 19 - i = (19 - (i + 1)) + 1 by omega, Nat.pow_succ, Nat.mul_comm (10 ^ _) 10, Nat.mul_assoc]
  rw [e]
  congr 2
  · omega
  · omega
theorem pow19 : (10 : Nat) ^ 19 = 10000000000000000000 := by decide
theorem p_small {p i : Nat} (hi : i < 19) (h : p < 10 ^ (19 - i)) : p / 10 < 10 ^ (19 - (i + 1)) := by
  rw [show 19 - i = (19 - (i + 1)) + 1 by omega, Nat.pow_succ] at h
  omega

theorem own_only {w w' : World} {base e n g : Nat} {v : Value} {xs : List Value} (h : w.ownsRow base e 1 v n xs) (ho : Only g w w') (hg : v.ownBlock ≠ some g) : w'.ownsRow base e 1 v n xs := by
  refine ⟨h.1, ?_⟩
  rcases h.2 with h2 | ⟨k, cap, cur, rfl, h3, h4, h5⟩
  · exact .inl h2
  · refine .inr ⟨k, cap, cur, rfl, h3, ?_, h5⟩
    have hne : k ≠ g := by intro e; apply hg; simp [Value.ownBlock, e]
    have hlt : k < w.heap.size := by
      rcases Nat.lt_or_ge k w.heap.size with h | h
      · exact h
      · rw [Array.getElem?_eq_none h] at h4; cases h4
    rw [ho.block k hlt hne]; exact h4
theorem own_below {w w' : World} {base e n : Nat} {v : Value} {xs : List Value} (h : w.ownsRow base e 1 v n xs) (hb : Below w.heap.size w w') : w'.ownsRow base e 1 v n xs := by
  refine ⟨h.1, ?_⟩
  rcases h.2 with h2 | ⟨k, cap, cur, rfl, h3, h4, h5⟩
  · exact .inl h2
  · refine .inr ⟨k, cap, cur, rfl, h3, ?_, h5⟩
    have hlt : k < w.heap.size := by
      rcases Nat.lt_or_ge k w.heap.size with h | h
      · exact h
      · rw [Array.getElem?_eq_none h] at h4; cases h4
    rw [hb.block k hlt]; exact h4
theorem blk_ne {w : World} {base n g : Nat} {v : Value} {xs : List Nat} {ys : List Value} (hb : Blk w g xs) (h : w.ownsRow base 5 1 v n ys) : v.ownBlock ≠ some g := by
  obtain ⟨cur, hc, _⟩ := hb
  rcases h.2 with ⟨rfl, _⟩ | ⟨k, cap, cur', rfl, _, h4, _⟩
  · simp [Value.ownBlock]
  · intro e
    simp [Value.ownBlock] at e
    subst e
    rw [hc] at h4
    injection h4 with h4
    injection h4 with _ h5
    exact absurd h5 (by decide)
theorem Blk.grown {w w' : World} {g : Nat} {xs : List Nat} {row : Option Nat} (h : Blk w g xs) (hg : w.grownBy w' row) (hne : row ≠ some g) : Blk w' g xs := by
  obtain ⟨cur, hc, hx⟩ := h
  refine ⟨cur, ?_, hx⟩
  rw [hg.block g (Blk.lt ⟨cur, hc, hx⟩) (fun e => hne e.symm)]; exact hc
theorem Blk.alloc {w : World} {g : Nat} {xs : List Nat} (h : Blk w g xs) (o : Obj) : Blk (w.alloc o) g xs := h.below ((Below.refl w.heap.size w).alloc (Nat.le_refl _) o) h.lt

def sig (l : List Int) : List Int := l.map (48 + ·)
/-- The outer loop of writeDigits. -/
def WriteInv (w0 : World) (g c v : Nat) (vl vt : Value) (wr : World) : Prop :=
  ∃ (ls : List Nat) (t : List Int), vl = .slice (some ⟨g, 0, none⟩) ls.length c ∧ (0 < ls.length ↔ 0 < natVal ls) ∧ Words ls ∧ Blk wr g ls ∧ w0.heap.size ≤ g ∧ t ++ sig (digN (natVal ls)) = sig (digN v) ∧
    wr.ownsRow w0.heap.size 5 1 vt t.length (bytesOf t) ∧ Below w0.heap.size w0 wr ∧ ls.length < 4294967296 ∧ ls.length ≤ c
/-- The inner loop. -/
def DigitInv (w0 : World) (g v T0 : Nat) (ls : List Nat) (vt vp vi : Value) (wr : World) : Prop :=
  ∃ (i p : Nat) (t : List Int), vi = .int .i64 (i : Nat) ∧ vp = .int .u64 (p : Nat) ∧ i ≤ 19 ∧ p < 10 ^ (19 - i) ∧ Blk wr g ls ∧ t ++ sig (digN (p + 10 ^ (19 - i) * natVal ls)) = sig (digN v) ∧ t.length = T0 + i ∧
    wr.ownsRow w0.heap.size 5 1 vt t.length (bytesOf t) ∧ Below w0.heap.size w0 wr
def sliceLen : Value → Nat
  | .slice _ n _ => n
  | _ => 0
theorem own_sliceLen {w : World} {base e n : Nat} {v : Value} {xs : List Value} (h : w.ownsRow base e 1 v n xs) : sliceLen v = n := by
  rcases h.2 with ⟨rfl, rfl⟩ | ⟨k, cap, cur, rfl, _⟩ <;> rfl
end Go.Proofs.YtegndbiglehacaaDoor
