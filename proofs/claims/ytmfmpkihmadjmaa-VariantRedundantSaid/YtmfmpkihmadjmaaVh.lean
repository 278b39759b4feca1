/- The reference: mentions, option, decode. -/
import Derived.Test.YtmfmpkihmadjmaaVg
import Derived.Laws.IdiomStrings
import Derived.Test.YtmfmpkihmadjmaaVq
namespace Go.Proofs.Ytmfmpkihmadjmaa
open Go.RowKit Go.Shelf
set_option maxRecDepth 100000 in
set_option maxHeartbeats 4000000 in
theorem mentions_any (A : Option Addr) (n c : Nat) (v : Int) (ls : List (Int × Bool)) (w : World) (h1 : LitL w A ls) (hn : ls.length = n) (hn2 : n ≤ 4611686018427387904) :
    Calls Try.prog 36 #[.slice A n c, .int .i64 v] w fun e w' => e = .returned (.bool (ls.any fun l => l.1 == v)) ∧ w = w' := by
  go_enter Try.func36, Try.ntmps36
  go_wp2_with fail
  go_loopw [5] (fun i wr => ∃ j : Nat, i = .int .i64 (j : Nat) ∧ j ≤ n ∧ w = wr ∧ ((ls.take j).any fun l => l.1 == v) = false) (fun i _ => n - (intOf i).toNat)
  case atStart => exact ⟨0, rfl, Nat.zero_le _, rfl, rfl⟩
  case round =>
    obtain ⟨j, rfl, hj, rfl, hpre⟩ := hrel
    have Hpre := Lib.hid hpre
    by_cases hlt : j < n
    · have Hlt := Lib.hid hlt
      obtain ⟨x, b, o, hx, rfl, _, hc1, hc2⟩ := h1.at_ (k := j) (by omega)
      have i1 : (j : Int) < (n : Int) := by omega
      have htk : (ls.take (j + 1)).any (fun l => l.1 == v) = (x.1 == v) := by
        rw [List.take_add_one, hx, List.any_append, hpre]
        simp
      have Htk := Lib.hid htk
      have Hsp := Lib.hid (List.take_append_drop (j + 1) ls)
      clear hpre h1 hx htk
      by_cases hxy : x.1 = v
      · have t0 : (x.1 == v) = true := beq_iff_eq.2 hxy
        have t1 : (x.1 = v) = True := eq_true hxy
        go_wp2_with fail
        go_ret
        refine ⟨?_, rfl⟩
        rw [← Hsp.out, List.any_append, Htk.out, t0]
        rfl
      · have t0 : (x.1 == v) = false := beq_eq_false_iff_ne.2 hxy
        have t1 : (x.1 = v) = False := eq_false hxy
        have HT := Lib.hid (Htk.out.trans t0)
        go_wp2_with fail
        go_roundw
        case rel => exact ⟨j + 1, by go_num, Hlt.out, trivial, HT.out⟩
        case measure => simp [intOf]; have := Hlt.out; omega
    · have hjn : j = n := by omega
      subst hjn
      rw [← hn, List.take_length] at hpre
      have HT := Lib.hid hpre
      go_wp2_with fail
      go_ret
      refine ⟨?_, rfl⟩
      rw [HT.out]
      rfl
/-- The name of an option. -/
def optN (i : Nat) : ByteArray := ⟨#[(97 + i).toUInt8]⟩
set_option maxRecDepth 100000 in
set_option maxHeartbeats 4000000 in
theorem option_any (i : Nat) (w : World) (hi : i < 6) :
    Calls Try.prog 37 #[.int .i64 (i : Nat)] w fun e w' => e = .returned (.string (optN i)) ∧ Below w.heap.size w w' := by
  match i, hi with
  | 0, _ =>
    have hC := Cells.new w #[.int .u8 97] 5
    have kC := Lib.hid ((Below.refl w.heap.size w).alloc (Nat.le_refl _) (.cells #[.int .u8 97] 5))
    have hcv : (convert 97 9 (.slice (some ⟨w.heap.size, 0, none⟩) 1 1)).run Try.prog (w.alloc (.cells #[.int .u8 97] 5)) = .ok (.string ⟨#[97]⟩) (w.alloc (.cells #[.int .u8 97] 5)) :=
      run_convert_bytes_back _ _ _ 5 ⟨w.heap.size, 0, none⟩ 1 [97] Try.underlying97 Try.underlying5 Try.underlying9 (fun j hj => by
        have h0 : j = 0 := by simp at hj; exact hj
        subst h0
        rw [Addr.add_lit]
        exact hC.at_ 0)
    clear hC
    go_enter Try.func37, Try.ntmps37
    go_wp2_with fail
    go_ret
    exact ⟨rfl, kC.out⟩
  | 1, _ =>
    have hC := Cells.new w #[.int .u8 98] 5
    have kC := Lib.hid ((Below.refl w.heap.size w).alloc (Nat.le_refl _) (.cells #[.int .u8 98] 5))
    have hcv : (convert 97 9 (.slice (some ⟨w.heap.size, 0, none⟩) 1 1)).run Try.prog (w.alloc (.cells #[.int .u8 98] 5)) = .ok (.string ⟨#[98]⟩) (w.alloc (.cells #[.int .u8 98] 5)) :=
      run_convert_bytes_back _ _ _ 5 ⟨w.heap.size, 0, none⟩ 1 [98] Try.underlying97 Try.underlying5 Try.underlying9 (fun j hj => by
        have h0 : j = 0 := by simp at hj; exact hj
        subst h0
        rw [Addr.add_lit]
        exact hC.at_ 0)
    clear hC
    go_enter Try.func37, Try.ntmps37
    go_wp2_with fail
    go_ret
    exact ⟨rfl, kC.out⟩
  | 2, _ =>
    have hC := Cells.new w #[.int .u8 99] 5
    have kC := Lib.hid ((Below.refl w.heap.size w).alloc (Nat.le_refl _) (.cells #[.int .u8 99] 5))
    have hcv : (convert 97 9 (.slice (some ⟨w.heap.size, 0, none⟩) 1 1)).run Try.prog (w.alloc (.cells #[.int .u8 99] 5)) = .ok (.string ⟨#[99]⟩) (w.alloc (.cells #[.int .u8 99] 5)) :=
      run_convert_bytes_back _ _ _ 5 ⟨w.heap.size, 0, none⟩ 1 [99] Try.underlying97 Try.underlying5 Try.underlying9 (fun j hj => by
        have h0 : j = 0 := by simp at hj; exact hj
        subst h0
        rw [Addr.add_lit]
        exact hC.at_ 0)
    clear hC
    go_enter Try.func37, Try.ntmps37
    go_wp2_with fail
    go_ret
    exact ⟨rfl, kC.out⟩
  | 3, _ =>
    have hC := Cells.new w #[.int .u8 100] 5
    have kC := Lib.hid ((Below.refl w.heap.size w).alloc (Nat.le_refl _) (.cells #[.int .u8 100] 5))
    have hcv : (convert 97 9 (.slice (some ⟨w.heap.size, 0, none⟩) 1 1)).run Try.prog (w.alloc (.cells #[.int .u8 100] 5)) = .ok (.string ⟨#[100]⟩) (w.alloc (.cells #[.int .u8 100] 5)) :=
      run_convert_bytes_back _ _ _ 5 ⟨w.heap.size, 0, none⟩ 1 [100] Try.underlying97 Try.underlying5 Try.underlying9 (fun j hj => by
        have h0 : j = 0 := by simp at hj; exact hj
        subst h0
        rw [Addr.add_lit]
        exact hC.at_ 0)
    clear hC
    go_enter Try.func37, Try.ntmps37
    go_wp2_with fail
    go_ret
    exact ⟨rfl, kC.out⟩
  | 4, _ =>
    have hC := Cells.new w #[.int .u8 101] 5
    have kC := Lib.hid ((Below.refl w.heap.size w).alloc (Nat.le_refl _) (.cells #[.int .u8 101] 5))
    have hcv : (convert 97 9 (.slice (some ⟨w.heap.size, 0, none⟩) 1 1)).run Try.prog (w.alloc (.cells #[.int .u8 101] 5)) = .ok (.string ⟨#[101]⟩) (w.alloc (.cells #[.int .u8 101] 5)) :=
      run_convert_bytes_back _ _ _ 5 ⟨w.heap.size, 0, none⟩ 1 [101] Try.underlying97 Try.underlying5 Try.underlying9 (fun j hj => by
        have h0 : j = 0 := by simp at hj; exact hj
        subst h0
        rw [Addr.add_lit]
        exact hC.at_ 0)
    clear hC
    go_enter Try.func37, Try.ntmps37
    go_wp2_with fail
    go_ret
    exact ⟨rfl, kC.out⟩
  | 5, _ =>
    have hC := Cells.new w #[.int .u8 102] 5
    have kC := Lib.hid ((Below.refl w.heap.size w).alloc (Nat.le_refl _) (.cells #[.int .u8 102] 5))
    have hcv : (convert 97 9 (.slice (some ⟨w.heap.size, 0, none⟩) 1 1)).run Try.prog (w.alloc (.cells #[.int .u8 102] 5)) = .ok (.string ⟨#[102]⟩) (w.alloc (.cells #[.int .u8 102] 5)) :=
      run_convert_bytes_back _ _ _ 5 ⟨w.heap.size, 0, none⟩ 1 [102] Try.underlying97 Try.underlying5 Try.underlying9 (fun j hj => by
        have h0 : j = 0 := by simp at hj; exact hj
        subst h0
        rw [Addr.add_lit]
        exact hC.at_ 0)
    clear hC
    go_enter Try.func37, Try.ntmps37
    go_wp2_with fail
    go_ret
    exact ⟨rfl, kC.out⟩
end Go.Proofs.Ytmfmpkihmadjmaa
