/- The components that no edge leaves. -/
import Derived.Test.YthocdmlacfejkaaDoorDel
import Derived.Test.YthocdmlacfejkaaDoorPth
namespace Go.Proofs.YthocdmlacfejkaaDoor
open Go.RowKit
def sinkM (es : List (Nat × Nat)) (out : List Nat) : List Nat := out.filter fun s => lev (adj es) s 64 == s
theorem Cells.keepB {B : Nat} {w w' : World} {p : Nat} {vs : List Value} (h : Cells w p vs) (hb : Below B w w') (hp : p < B) : Cells w' p vs :=
  ⟨fun i => (hb.cell (p := ⟨p, i, none⟩) hp).trans (h.at_ i), fun i => (hb.frozen (p := ⟨p, i, none⟩) hp).trans (h.fz i), Nat.lt_of_lt_of_le h.lt hb.size⟩
set_option maxRecDepth 100000 in
set_option maxHeartbeats 8000000 in
theorem delete_own (B : Nat) (v : Value) (l : List Nat) (del : Nat → Bool) (y : Value) (w : World) (h : w.ownsRow B 98 1 v l.length (u64s l)) (hl : ∀ x ∈ l, x < 18446744073709551616) (hn : l.length ≤ 1000) (hBw : B ≤ w.heap.size)
    (hF : ∀ w' x, x < 18446744073709551616 → Below B w w' → Calls Tryd.prog 98 #[.int .u64 (x : Nat), y] w' fun e w2 => e = .returned (.bool (del x)) ∧ Below w'.heap.size w' w2) :
    Calls Tryd.prog 99 #[v, .func (.func 98) #[] #[y]] w fun e w' => ∃ A c, e = .returned (.slice A (l.filter fun x => !del x).length c) ∧ UL B w' A (l.filter fun x => !del x) ∧ Below B w w' := by
  by_cases h0 : l = []
  · subst h0
    obtain ⟨A, c, rfl, hU, _, _⟩ := own_sets h
    have HI := Lib.hid (index_any B A c [] del y w hU hl hn (fun w' x hx hb => hF w' x hx (hb.mono hBw)))
    have HU := Lib.hid hU
    have HB := Lib.hid hBw
    clear h hl hF hU hBw
    go_enter Tryd.func99, Tryd.ntmps99
    go_wp2_with fail
    refine HI.out.mono ?_
    rintro e w1 ⟨hc1, hb1⟩
    have U1 := Lib.hid (HU.out.keep hb1)
    have B1 := Lib.hid (hb1.mono HB.out)
    rcases hc1 with ⟨hno, rfl⟩ | ⟨k, x, hx, _⟩
    · clear hno hb1
      go_wp2_with fail
      go_ret
      exact ⟨_, _, rfl, U1.out, B1.out⟩
    · simp at hx
  · obtain ⟨g, c, tl, rfl, hBg, hc, hlc⟩ := own_rowS h h0
    refine (delete_any B g c l tl del y w hc hBg hl hn hlc hF).mono ?_
    rintro e w1 ⟨k, c', rfl, rfl, hU, hb⟩
    exact ⟨_, _, rfl, hU, hb⟩
set_option maxRecDepth 100000 in
set_option maxHeartbeats 8000000 in
theorem sinks_any (n : Nat) (A : Option Addr) (m c : Nat) (es : List (Nat × Nat)) (out : List Nat) (w : World) (h : EL w A m (cast es)) (hg : Fine n es) (hout : compM es n = some out) (ho64 : ∀ x ∈ out, x < 18446744073709551616) (hol : out.length ≤ 1000) (hw : Good w) :
    Calls Tryd.prog 49 #[gV n A m c] w fun e w' => ∃ A', e = .returned (.tuple #[.slice A' (sinkM es out).length (sinkM es out).length, .int .i64 0]) ∧ LL w.heap.size w' A' ((sinkM es out).map bitsOf) ∧ Below w.heap.size w w' := by
  have hlen := h.len
  have hm : m ≤ 4096 := by have := hg.len; omega
  have hn64 := hg.n64
  have HL : ∀ i, Under 64 (adj es i) := fun i => adj_under hg.low64 i
  have kv := (Below.refl w.heap.size w).alloc (Nat.le_refl _) (.cells #[.int .i64 (n : Nat), .slice A m c] 26)
  have G0 := Lib.hid (Cells.new w #[.int .i64 (n : Nat), .slice A m c] 26)
  have HC := check_any (n : Int) A m c (cast es) (w.alloc (.cells #[.int .i64 (n : Nat), .slice A m c] 26)) (h.keep kv) (by omega)
  rw [hg.check] at HC
  have HC := Lib.hid HC
  have HG := Lib.hid (fun w' (hb' : Below w.heap.size w w') => hw.below hb' hw.size)
  have HN := Lib.hid (fun w' (hb' : Below w.heap.size w w') => next_any n A m c es w' (h.keep hb') hg.low64 hm)
  have HM := Lib.hid (fun w' (hb' : Below w.heap.size w w') => components_any n A m c es out w' (h.keep hb') hg.low64 hm hn64 hout (hw.below hb' hw.size))
  have kv := Lib.hid kv
  have HL := Lib.hid HL
  have Ho := Lib.hid ho64
  have Hol := Lib.hid hol
  clear h hg hw hout hlen ho64 hol
  go_enter Tryd.func49, Tryd.ntmps49
  go_wp2_with fail
  refine HC.out.mono ?_
  rintro e w1 ⟨rfl, hb1⟩
  have G1 := Lib.hid (G0.out.keep hb1)
  have B1 := Lib.hid (below_on kv.out hb1)
  have g0 := G1.out.at_ 0
  have g1 := G1.out.at_ 1
  simp only [List.getElem?_cons_zero, List.getElem?_cons_succ] at g0 g1
  clear hb1
  go_wp2_with fail
  refine (HN.out _ B1.out).mono ?_
  rintro e w2 ⟨p, rfl, hp, hps, hb2⟩
  have G2 := Lib.hid (G1.out.keep hb2)
  have B2 := Lib.hid (below_on B1.out hb2)
  have P2 := Lib.hid (hp.keep ((Below.refl w2.heap.size w2).alloc (Nat.le_refl _) (.cells #[.pointer (some ⟨p, 0, none⟩)] 107)))
  have Q2 := Lib.hid (Cells.new w2 #[.pointer (some ⟨p, 0, none⟩)] 107)
  have G3 := Lib.hid (G2.out.keep ((Below.refl w2.heap.size w2).alloc (Nat.le_refl _) (.cells #[.pointer (some ⟨p, 0, none⟩)] 107)))
  have B3 := Lib.hid (B2.out.alloc B2.out.size (.cells #[.pointer (some ⟨p, 0, none⟩)] 107))
  have h0 := G3.out.at_ 0
  have h1 := G3.out.at_ 1
  simp only [List.getElem?_cons_zero, List.getElem?_cons_succ] at h0 h1
  clear hp hps hb2 g0 g1
  go_wp2_with fail
  refine (HM.out _ B3.out).mono ?_
  rintro e w4 ⟨v, rfl, hown, hb4⟩
  have B4 := Lib.hid (below_on B3.out hb4)
  have P4 := Lib.hid (P2.out.keep hb4)
  have Q4 := Lib.hid (Q2.out.keep hb4)
  have hq := Lib.hid hb4.size
  have HD := Lib.hid (delete_own (w2.heap.size + 1) v out (fun s => !(lev (adj es) s 64 == s)) (.pointer (some ⟨w2.heap.size, 0, none⟩)) w4 (by simpa using hown) Ho.out Hol.out (by have := hb4.size; simpa using this) (fun w' x hx hb => leaves_any p w2.heap.size (adj es) x w' (P4.out.keepB hb (by have := P2.out.lt; simpa using this)) ((hb.cell (by simp)).trans (Q4.out.at_ 0)) HL.out hx (HG.out w' (B4.out.trans (hb.mono (by have := B2.out.size; omega))))))
  have hflt : (out.filter fun x => !(fun s => !(lev (adj es) s 64 == s)) x) = sinkM es out := by
    unfold sinkM
    congr 1
    funext x
    simp
  rw [hflt] at HD
  clear hown hb4 h0 h1 hflt
  go_wp2_with fail
  refine HD.out.mono ?_
  rintro e w5 ⟨A5, c5, rfl, hU, hb5⟩
  have B5 := Lib.hid (B4.out.trans (hb5.mono (by have := B2.out.size; omega)))
  have HLs := Lib.hid (lists_any _ A5 c5 (sinkM es out) w5 hU (fun x hx => Ho.out x (List.mem_filter.1 hx).1) (Nat.le_trans (List.length_filter_le _ _) Hol.out) (HG.out _ B5.out))
  clear hU hb5
  go_wp2_with fail
  refine HLs.out.mono ?_
  rintro e w6 ⟨A6, rfl, hLL, hb6⟩
  have B6 := Lib.hid (below_on B5.out hb6)
  have L6 := Lib.hid (hLL.down B5.out.size)
  clear hLL hb6
  go_wp2_with fail
  go_ret2
  exact ⟨A6, rfl, L6.out, B6.out⟩
end Go.Proofs.YthocdmlacfejkaaDoor
