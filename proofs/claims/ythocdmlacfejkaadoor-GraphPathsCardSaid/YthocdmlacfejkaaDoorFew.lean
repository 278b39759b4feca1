/- The law's own helpers. -/
import Derived.Test.YthocdmlacfejkaaDoorBad2
namespace Go.Proofs.YthocdmlacfejkaaDoor
open Go.RowKit
def fewG (n : Int) (m : Nat) : Bool := decide (m ≤ 24) && (decide (n ≤ 8) || decide (64 < n))
set_option maxRecDepth 100000 in
set_option maxHeartbeats 8000000 in
theorem few_any (n : Int) (A : Option Addr) (m c : Nat) (w : World) :
    Calls Tryd.prog 15 #[gV n A m c] w fun e w' => e = .returned (.bool (fewG n m)) ∧ Below w.heap.size w w' := by
  have kv := Lib.hid ((Below.refl w.heap.size w).alloc (Nat.le_refl _) (.cells #[.int .i64 n, .slice A m c] 26))
  go_enter Tryd.func15, Tryd.ntmps15
  unfold fewG
  by_cases h1 : m ≤ 24
  · have t1 : decide ((m : Int) ≤ 24) = true := decide_eq_true (by omega)
    have t1' : (m : Int) ≤ 24 := by omega
    by_cases h2 : n ≤ 8
    · have t2 : decide (n ≤ 8) = true := decide_eq_true h2
      go_wp2_with fail
      go_ret
      exact ⟨by simp [h1, h2], kv.out⟩
    · have t2 : decide (n ≤ 8) = false := decide_eq_false h2
      by_cases h3 : 64 < n
      · have t3 : decide (64 < n) = true := decide_eq_true h3
        go_wp2_with fail
        go_ret
        exact ⟨by simp, kv.out⟩
      · have t3 : decide (64 < n) = false := decide_eq_false h3
        go_wp2_with fail
        go_ret
        exact ⟨by simp, kv.out⟩
  · have t1 : decide ((m : Int) ≤ 24) = false := decide_eq_false (by omega)
    go_wp2_with fail
    go_ret
    exact ⟨by simp [h1], kv.out⟩
end Go.Proofs.YthocdmlacfejkaaDoor
