/- Which nodes a list of nodes reaches. -/
import Derived.Test.YthocdmlacfejkaaDoorNds
import Derived.Test.YthocdmlacfejkaaDoorPth
namespace Go.Proofs.YthocdmlacfejkaaDoor
open Go.RowKit
def RchPost (n : Nat) (es : List (Nat × Nat)) (l : List Int) (w : World) (e : Ending) (w' : World) : Prop :=
  ((errN n l ≠ 0 ∧ e = .returned (.tuple #[.slice none 0 0, .int .i64 (errN n l)])) ∨ (errN n l = 0 ∧ ∃ v, e = .returned (.tuple #[v, .int .i64 0]) ∧ w'.ownsRow w.heap.size 3 1 v (bitsOf (lev (adj es) (setI l) 64)).length (nats (bitsOf (lev (adj es) (setI l) 64))))) ∧ Below w.heap.size w w'
theorem setI_under {n : Nat} {l : List Int} (hn : n ≤ 64) (h : errN n l = 0) : setI l < 18446744073709551616 := by
  unfold errN at h
  by_cases h1 : l.all (inN n) = true
  · exact setI_lt (all_mono hn h1)
  · simp [h1] at h
set_option maxRecDepth 100000 in
set_option maxHeartbeats 8000000 in
theorem reachG_any (n : Nat) (A : Option Addr) (m c : Nat) (es : List (Nat × Nat)) (B : Option Addr) (d : Nat) (l : List Int) (w : World) (h : EL w A m (cast es)) (hg : Fine n es) (hl : IL w B l) (hll : l.length ≤ 1000000) (hw : Good w) :
    Calls Tryd.prog 33 #[gV n A m c, .slice B l.length d] w (RchPost n es l w) := by
  have hlen := h.len
  have hm : m ≤ 4096 := by have := hg.len; omega
  have hn64 := hg.n64
  have HL : ∀ i, Under 64 (adj es i) := fun i => adj_under hg.low64 i
  have kv := (Below.refl w.heap.size w).alloc (Nat.le_refl _) (.cells #[.int .i64 (n : Nat), .slice A m c] 26)
  have G0 := Lib.hid (Cells.new w #[.int .i64 (n : Nat), .slice A m c] 26)
  have HC := Lib.hid (checkNodes_any n A m c es B d l _ (h.keep kv) hg (hl.keep kv) hll)
  have HG := Lib.hid (fun w' (hb' : Below w.heap.size w w') => hw.below hb' hw.size)
  have HN := Lib.hid (fun w' (hb' : Below w.heap.size w w') => next_any n A m c es w' (h.keep hb') hg.low64 hm)
  have HL := Lib.hid HL
  have Hs := Lib.hid (fun h0 => setI_under hn64 (l := l) h0)
  have kv := Lib.hid kv
  clear h hg hw hlen hl hll
  go_enter Tryd.func33, Tryd.ntmps33
  go_wp2_with fail
  refine HC.out.mono ?_
  rintro e w1 ⟨hc, hb1⟩
  have G1 := Lib.hid (G0.out.keep hb1)
  have B1 := Lib.hid (below_on kv.out hb1)
  have g0 := G1.out.at_ 0
  have g1 := G1.out.at_ 1
  simp only [List.getElem?_cons_zero, List.getElem?_cons_succ] at g0 g1
  clear hb1
  rcases hc with ⟨hne, rfl⟩ | ⟨h0, rfl⟩
  · have Hne := Lib.hid hne
    obtain ⟨er, her⟩ : ∃ er, errN n l = er := ⟨_, rfl⟩
    rw [her] at hne ⊢
    have t0 : (er != 0) = true := by simpa using hne
    have Her := Lib.hid her
    clear hne her
    go_wp2_with fail
    go_ret2
    exact ⟨.inl ⟨Hne.out, by rw [Her.out]; rfl⟩, B1.out⟩
  · have hs64 := Hs.out h0
    have H0 := Lib.hid h0
    clear h0
    go_wp2_with fail
    refine (HN.out _ B1.out).mono ?_
    rintro e w2 ⟨p, rfl, hp, hps, hb2⟩
    have B2 := Lib.hid (below_on B1.out hb2)
    have HR := Lib.hid (reach_any p (adj es) (setI l) w2 hp HL.out hs64 (HG.out _ B2.out))
    clear hp hps hb2 g0 g1
    go_wp2_with fail
    refine HR.out.mono ?_
    rintro e w3 ⟨rfl, hb3⟩
    have B3 := Lib.hid (below_on B2.out hb3)
    have HLs := Lib.hid (list_any (lev (adj es) (setI l) 64) w3 (under_lt (lev_under HL.out (lt_under (k := 64) hs64) 64)) (HG.out _ B3.out))
    clear hb3
    go_wp2_with fail
    refine HLs.out.mono ?_
    rintro e w4 ⟨v, rfl, hown, hb4⟩
    have B4 := Lib.hid (below_on B3.out hb4)
    have O4 := Lib.hid (own_down' hown B3.out.size)
    clear hown hb4
    go_wp2_with fail
    go_ret2
    exact ⟨.inr ⟨H0.out, v, rfl, O4.out⟩, B4.out⟩
end Go.Proofs.YthocdmlacfejkaaDoor
