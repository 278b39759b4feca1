/- Components and Parts, by the classes. -/
import Derived.Test.YthocdmlacfejkaaDoorPtm
import Derived.Test.YthocdmlacfejkaaDoorGmk
namespace Go.Proofs.YthocdmlacfejkaaDoor
open Go.RowKit
theorem cls_small {n : Nat} {es : List (Nat × Nat)} (hl : Low n es) (hn : n ≤ 64) : (clsM n es).length ≤ 1000 ∧ ∀ l ∈ clsM n es, l.length ≤ 64 := by
  obtain ⟨out, _, _, hol, hcl⟩ := comp_ok hl hn
  rw [← hcl]
  refine ⟨by rw [List.length_map]; exact hol, fun l hl => ?_⟩
  obtain ⟨x, _, rfl⟩ := List.mem_map.1 hl
  exact bitsOf_len x
theorem compsC_any (n : Nat) (A : Option Addr) (m c : Nat) (es : List (Nat × Nat)) (w : World) (h : EL w A m (cast es)) (hg : Fine n es) (hw : Good w) :
    Calls Tryd.prog 28 #[gV n A m c] w fun e w' => ∃ A', e = .returned (.tuple #[.slice A' (clsM n es).length (clsM n es).length, .int .i64 0]) ∧ LL w.heap.size w' A' (clsM n es) ∧ Below w.heap.size w w' := by
  obtain ⟨out, hout, h64, hol, hcl⟩ := comp_ok hg.low hg.n64
  rw [← hcl, List.length_map]
  exact comps_any n A m c es out w h hg hout h64 hol hw
theorem partsC_any (n : Nat) (A : Option Addr) (m c : Nat) (es : List (Nat × Nat)) (w : World) (h : EL w A m (cast es)) (hg : Fine n es) (hw : Good w) :
    Calls Tryd.prog 50 #[gV n A m c] w fun e w' => ∃ A', e = .returned (.tuple #[.slice A' (clsM n (bothE es)).length (clsM n (bothE es)).length, .int .i64 0]) ∧ LL w.heap.size w' A' (clsM n (bothE es)) ∧ Below w.heap.size w w' := by
  rw [← parts_cls hg.low hg.n64, List.length_map]
  exact (parts_any n A m c es w h hg hw).mono fun e w' ⟨⟨A', h1, h2⟩, h3⟩ => ⟨A', h1, h2, h3⟩
theorem made_fine {n : Nat} {es : List (Nat × Nat)} (hl : Low n es) (hn : n ≤ 64) : Fine n (makeL n es) where
  check := made_check hl hn
  low := fun e he => hl e ((mem_make hl).1 he)
  n64 := hn
  len := by
    have := make_len (n := n) (es := es)
    have : n * n ≤ 64 * 64 := Nat.mul_le_mul hn hn
    omega
theorem bits_con {x u : Nat} (h : u < 64) : (bitsOf x).contains u = x.testBit u := by
  rw [Bool.eq_iff_iff, List.contains_iff_mem, mem_bitsOf]
  exact ⟨fun h => h.2, fun h1 => ⟨h, h1⟩⟩
theorem clos_mirror {n : Nat} {es : List (Nat × Nat)} (hl : Low n es) (hn : n ≤ 64) {u v : Nat} (hu : u < n) (hv : v < n) {a b : List Nat} (ha : ((closM es n).map bitsOf)[v]? = some a) (hb : ((closM (makeL n (revE es)) n).map bitsOf)[u]? = some b) : a.contains u = b.contains v ∧ a.length ≤ 1000000 ∧ b.length ≤ 1000000 := by
  unfold closM at ha hb
  rw [List.map_map, List.getElem?_map, List.getElem?_range (by omega)] at ha hb
  simp only [Option.map_some, Function.comp_apply] at ha hb
  injection ha with ha
  injection hb with hb
  subst ha hb
  rw [bits_con (by omega), bits_con (by omega)]
  refine ⟨lev_rev hl hn hu hv, ?_, ?_⟩
  · have := bitsOf_len (lev (adj es) (sing v) 64); omega
  · have := bitsOf_len (lev (adj (makeL n (revE es))) (sing u) 64); omega
end Go.Proofs.YthocdmlacfejkaaDoor
