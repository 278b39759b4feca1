/- Lists of nodes: checkNodes. -/
import Derived.Test.YthocdmlacfejkaaDoorPth
import Derived.Test.YthocdmlacfejkaaDoorEq
namespace Go.Proofs.YthocdmlacfejkaaDoor
open Go.RowKit
theorem IL.at_ {w : World} {A : Option Addr} {l : List Int} (h : IL w A l) {k : Nat} (hk : k < l.length) : ∃ x b o, l[k]? = some x ∧ A = some ⟨b, o, none⟩ ∧ b < w.heap.size ∧ w.cell? ⟨b, o + k, none⟩ = some (.int .i64 x) := by
  obtain ⟨b, o, e, hb⟩ := h k l[k] (List.getElem?_eq_getElem hk)
  exact ⟨_, b, o, List.getElem?_eq_getElem hk, e, hb⟩
def inN (n : Nat) (x : Int) : Bool := decide (0 ≤ x) && decide (x < n)
def incL : List Int → Bool
  | a :: b :: l => decide (a < b) && incL (b :: l)
  | _ => true
theorem incL_iff : ∀ (l : List Int), incL l = true ↔ ∀ i a b, l[i]? = some a → l[i + 1]? = some b → a < b
  | [] => by simp [incL]
  | [x] => by simp [incL]
  | x :: y :: l => by
    rw [incL, Bool.and_eq_true, decide_eq_true_eq, incL_iff (y :: l)]
    constructor
    · rintro ⟨h1, h2⟩ i a b ha hb
      cases i with
      | zero => simp at ha hb; subst ha hb; exact h1
      | succ i => exact h2 i a b (by simpa using ha) (by simpa using hb)
    · intro h
      exact ⟨h 0 x y rfl rfl, fun i a b ha hb => h (i + 1) a b (by simpa using ha) (by simpa using hb)⟩
/-- The first error of a list of nodes. -/
def errN (n : Nat) (l : List Int) : Int := if l.all (inN n) = false then 2 else if incL l = false then 8 else 0
def setI (l : List Int) : Nat := l.foldl (fun s x => s ||| sing x.toNat) 0
theorem setI_snoc (l : List Int) (x : Int) : setI (l ++ [x]) = setI l ||| sing x.toNat := by unfold setI; simp
theorem setI_lt {l : List Int} (h : l.all (inN 64) = true) : setI l < 18446744073709551616 := by
  unfold setI
  have : ∀ (l : List Int) (s : Nat), l.all (inN 64) = true → s < 18446744073709551616 → l.foldl (fun s x => s ||| sing x.toNat) s < 18446744073709551616 := by
    intro l
    induction l with
    | nil => intro s _ h; exact h
    | cons x l ih =>
      intro s h hs
      rw [List.all_cons, Bool.and_eq_true] at h
      have hx := h.1
      simp only [inN, Bool.and_eq_true, decide_eq_true_eq] at hx
      exact ih _ h.2 (or_lt hs (sing_lt (by omega)))
  exact this l 0 h (by decide)
theorem all_mono {n : Nat} (hn : n ≤ 64) {l : List Int} (h : l.all (inN n) = true) : l.all (inN 64) = true := by
  rw [List.all_eq_true] at h ⊢
  intro x hx
  have := h x hx
  simp only [inN, Bool.and_eq_true, decide_eq_true_eq] at this ⊢
  omega
def NdsPost (n : Nat) (l : List Int) (w : World) (e : Ending) (w' : World) : Prop :=
  ((errN n l ≠ 0 ∧ e = .returned (.tuple #[.int .u64 0, .int .i64 (errN n l)])) ∨ (errN n l = 0 ∧ e = .returned (.tuple #[.int .u64 (setI l : Nat), .int .i64 0]))) ∧ Below w.heap.size w w'
theorem nds_bad {n : Nat} {l : List Int} {x : Int} {k : Nat} (hk : l[k]? = some x) (hx : inN n x = false) : errN n l = 2 := by
  unfold errN
  rw [if_pos]
  rw [List.all_eq_false]
  exact ⟨x, List.mem_of_getElem? hk, by simp [hx]⟩
theorem nds_order {n k : Nat} {l : List Int} {x y : Int} (h : l.all (inN n) = true) (hx : l[k]? = some x) (hy : l[k + 1]? = some y) (hxy : y ≤ x) : errN n l = 8 := by
  unfold errN
  rw [if_neg (by simp [h]), if_pos]
  cases e : incL l with
  | false => rfl
  | true => have := (incL_iff l).1 e k x y hx hy; omega
theorem nds_ok {n k : Nat} {l : List Int} (h : l.all (inN n) = true) (hk : l.length ≤ k) (ho : ∀ i a b, i + 1 < k → l[i]? = some a → l[i + 1]? = some b → a < b) : errN n l = 0 := by
  unfold errN
  rw [if_neg (by simp [h]), if_neg]
  rw [Bool.not_eq_false, incL_iff]
  intro i a b ha hb
  refine ho i a b ?_ ha hb
  rcases Nat.lt_or_ge (i + 1) l.length with h4 | h4
  · omega
  · rw [List.getElem?_eq_none h4] at hb; cases hb
theorem nds_up {k : Nat} {l : List Int} {a b : Int} (h0 : 0 < k) (ha : l[k - 1]? = some a) (hb : l[k]? = some b) (hc : a < b) (ho : ∀ i a b, i + 1 < k → l[i]? = some a → l[i + 1]? = some b → a < b) :
    ∀ i a b, i + 1 < k + 1 → l[i]? = some a → l[i + 1]? = some b → a < b := by
  intro i x y hi hx hy
  by_cases h : i + 1 = k
  · obtain rfl : i = k - 1 := by omega
    rw [ha] at hx
    rw [h, hb] at hy
    injection hx with hx
    injection hy with hy
    subst hx hy
    exact hc
  · exact ho i x y (by omega) hx hy
set_option maxRecDepth 100000 in
set_option maxHeartbeats 8000000 in
theorem checkNodes_any (n : Nat) (A : Option Addr) (m c : Nat) (es : List (Nat × Nat)) (B : Option Addr) (d : Nat) (l : List Int) (w : World) (h : EL w A m (cast es)) (hg : Fine n es) (hl : IL w B l) (hll : l.length ≤ 1000000) :
    Calls Tryd.prog 78 #[gV n A m c, .slice B l.length d] w (NdsPost n l w) := by
  have hm : m ≤ 4096 := by have := hg.len; have := h.len; omega
  have hn64 := hg.n64
  have kv := (Below.refl w.heap.size w).alloc (Nat.le_refl _) (.cells #[.int .i64 (n : Nat), .slice A m c] 26)
  have G0 := Lib.hid (Cells.new w #[.int .i64 (n : Nat), .slice A m c] 26)
  have HC := check_any (n : Int) A m c (cast es) (w.alloc (.cells #[.int .i64 (n : Nat), .slice A m c] 26)) (h.keep kv) (by omega)
  rw [hg.check] at HC
  have HC := Lib.hid HC
  have H1 := Lib.hid (fun w' (hb : Below w.heap.size w w') => hl.keep hb)
  have kv := Lib.hid kv
  clear h hg hl
  go_enter Tryd.func78, Tryd.ntmps78
  go_wp2_with fail
  refine HC.out.mono ?_
  rintro e w1 ⟨rfl, hb1⟩
  have G1 := Lib.hid (G0.out.keep hb1)
  have B1 := Lib.hid (below_on kv.out hb1)
  have g0 := G1.out.at_ 0
  simp only [List.getElem?_cons_zero] at g0
  clear hb1
  have I1 := Lib.hid (H1.out _ B1.out)
  go_wp2_with fail
  go_loop [18, 7] (fun i sv => ∃ k : Nat, i = .int .i64 (k : Nat) ∧ k ≤ l.length ∧ (l.take k).all (inN n) = true ∧ sv = .int .u64 (setI (l.take k) : Nat)) (fun i _ => l.length - (intOf i).toNat)
  case atStart => exact ⟨0, rfl, Nat.zero_le _, by simp, rfl⟩
  case round =>
    obtain ⟨k, rfl, hk, ha, rfl⟩ := hrel
    have Ha := Lib.hid ha
    clear ha
    by_cases hlt : k < l.length
    · obtain ⟨x, b, o, hx, rfl, hbl, hcell⟩ := I1.out.at_ hlt
      have Hx := Lib.hid hx
      clear hx
      by_cases h1 : x < 0
      · have t1 : decide (x < 0) = true := decide_eq_true h1
        have Hf := Lib.hid (nds_bad (n := n) Hx.out (by simp [inN]; omega))
        clear h1
        go_wp2_with fail
        go_ret2
        exact ⟨.inl ⟨by rw [Hf.out]; decide, congrArg (fun z => Ending.returned (.tuple #[.int .u64 0, .int .i64 z])) Hf.out.symm⟩, B1.out⟩
      · have t1 : decide (x < 0) = false := decide_eq_false h1
        by_cases h2 : (n : Int) ≤ x
        · have t2 : decide ((n : Int) ≤ x) = true := decide_eq_true h2
          have Hf := Lib.hid (nds_bad (n := n) Hx.out (by simp [inN]; omega))
          clear h1 h2
          go_wp2_with fail
          go_ret2
          exact ⟨.inl ⟨by rw [Hf.out]; decide, congrArg (fun z => Ending.returned (.tuple #[.int .u64 0, .int .i64 z])) Hf.out.symm⟩, B1.out⟩
        · have t2 : decide ((n : Int) ≤ x) = false := decide_eq_false h2
          obtain ⟨y, rfl⟩ : ∃ y : Nat, x = y := ⟨x.toNat, by omega⟩
          have hy : y < 64 := by omega
          have t2' : decide (n ≤ y) = false := decide_eq_false (by omega)
          have Hf := Lib.hid (all_take Hx.out Ha.out (show inN n (y : Int) = true by simp [inN]; omega))
          have Hs := Lib.hid (show setI (l.take (k + 1)) = setI (l.take k) ||| sing y by rw [List.take_add_one, Hx.out]; exact setI_snoc _ _)
          have e1 : bits .or .u64 ((setI (l.take k) : Nat) : Int) ((sing y : Nat) : Int) = ((setI (l.take k) ||| sing y : Nat) : Int) := bits_or_u64_nat _ _ (setI_lt (all_mono hn64 Ha.out)) (sing_lt hy)
          have HSg := Lib.hid (fun w => single_any y w hy)
          have Hlt := Lib.hid hlt
          clear h1 h2
          go_wp2_with fail
          refine (HSg.out _).mono ?_
          rintro e w2 ⟨rfl, rfl⟩
          go_wp2_with fail
          go_round
          case rel => exact ⟨k + 1, by go_num, Hlt.out, Hf.out, by rw [Hs.out]⟩
          case measure => simp [intOf]; have := Hlt.out; omega
    · have Hall := Ha.out
      rw [List.take_of_length_le (by omega)] at Hall
      have Hall := Lib.hid Hall
      obtain rfl : k = l.length := by omega
      go_wp2_with fail
      go_loopw [10] (fun i wr => ∃ j : Nat, 0 < j ∧ i = .int .i64 (j : Nat) ∧ (1 < j → j ≤ l.length) ∧ (∀ i a b, i + 1 < j → l[i]? = some a → l[i + 1]? = some b → a < b) ∧ Below w.heap.size w wr) (fun i _ => l.length - (intOf i).toNat)
      case atStart => exact ⟨1, by omega, rfl, by omega, fun i a b h => by omega, B1.out⟩
      case round =>
        obtain ⟨j, hj0, rfl, hjm, ho, hb⟩ := hrel
        have Ho := Lib.hid ho
        have Hb := Lib.hid hb
        clear ho hb
        by_cases hlt : j < l.length
        · obtain ⟨a, b, o, hea, rfl, _, a0⟩ := (H1.out _ Hb.out).at_ (show j - 1 < l.length by omega)
          obtain ⟨a', b', o', heb, hA, _, b0⟩ := (H1.out _ Hb.out).at_ hlt
          injection hA with hA
          injection hA with hA1 hA2
          subst hA1 hA2
          have Hea := Lib.hid hea
          have Heb := Lib.hid heb
          have ew : IntKind.i64.wrap ((j : Int) - 1) = (j : Int) - 1 := IntWalk.i64_in _ (by omega)
          have i0 : (1 : Int) ≤ (j : Int) := by omega
          have i2 : (j : Int) - 1 < l.length := by omega
          have Hlt := Lib.hid hlt
          clear hea heb
          by_cases hc : a < a'
          · have Hs := Lib.hid (nds_up hj0 Hea.out Heb.out hc Ho.out)
            have tc : decide (a' ≤ a) = false := decide_eq_false (by omega)
            go_wp2_with fail
            go_still_tail 9, (by kernel_rfl)
            change wpList _ _ _ _ _ wr.drew
            go_wp2_with fail
            go_roundw
            case rel => exact ⟨j + 1, by omega, by go_num, fun _ => Hlt.out, Hs.out, Hb.out.drew⟩
            case measure => simp [intOf]; have := Hlt.out; omega
          · have tc : decide (a' ≤ a) = true := decide_eq_true (by omega)
            have Hf := Lib.hid (nds_order Hall.out Hea.out (by rw [show j - 1 + 1 = j by omega]; exact Heb.out) (by omega : a' ≤ a))
            clear hc
            go_wp2_with fail
            go_still_tail 9, (by kernel_rfl)
            change wpList _ _ _ _ _ wr.drew
            go_wp2_with fail
            go_ret2
            exact ⟨.inl ⟨by rw [Hf.out]; decide, congrArg (fun z => Ending.returned (.tuple #[.int .u64 0, .int .i64 z])) Hf.out.symm⟩, Hb.out.drew⟩
        · have Hf := Lib.hid (nds_ok (k := j) Hall.out (by omega) Ho.out)
          go_wp2_with fail
          go_ret2
          exact ⟨.inr ⟨Hf.out, rfl⟩, Hb.out⟩
end Go.Proofs.YthocdmlacfejkaaDoor
