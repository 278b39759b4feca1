/- Liaisons: what the functions answer at graphs and sets that are sound. -/
import Derived.Test.YtdpfoegcmngdfaaDoorLr
import Derived.Test.YtdpfoegcmngdfaaDoorLy
import Derived.Test.YtdpfoegcmngdfaaDoorLs2
import Derived.Test.YtdpfoegcmngdfaaDoorLs
import Derived.Test.YtdpfoegcmngdfaaDoorLn
namespace Go.Proofs.YtdpfoegcmngdfaaDoor
open Go.RowKit
structure OkL (n : Nat) (es : List (Nat × Nat)) : Prop where
  low : Low 12 es
  chk : checkG (n : Int) (cast es) = 0
  n12 : n ≤ 12
  li : liN es = 0
theorem OkL.under {n : Nat} {es : List (Nat × Nat)} (h : OkL n es) (i : Nat) : Under 64 (adj es i) := fun v hv => Nat.lt_trans (adj_under h.low i v hv) (by omega)
theorem read_fine {n : Nat} {A : Option Addr} {m c : Nat} {es : List (Nat × Nat)} {B : Option Addr} {d : Nat} {l : List Nat} {w : World} (ho : OkL n es) (h : EL w A m (cast es)) (hm : m ≤ 4096) (hl : IL w B (zs l)) (hll : l.length ≤ 64) (hE : setE n (zs l) = 0) (hin : ∀ v ∈ l, v < 64) :
    ∀ w', Below w.heap.size w w' → Calls Tryd.prog 47 #[gV n A m c, .slice B l.length d] w' fun e w1 => e = .returned (.tuple #[lvV (adj es), .int .u64 (ofM l : Nat), .int .i64 0]) ∧ Below w'.heap.size w' w1 := fun w' hb =>
  read_ok n A m c es B d l w' (fun w2 hb2 => by
    have := liCheck_any n A m c es w2 ((h.keep hb).keep hb2) hm ho.chk
    rwa [if_neg (by have := ho.n12; omega), ho.li] at this) (h.keep hb) hm ho.low (hl.keep hb) (by omega) hE hin
theorem bits_lt64 (s : Nat) : ∀ v ∈ bitsOf s, v < 64 := fun _v hv => (mem_bitsOf.1 hv).1
theorem read_s {n : Nat} {A : Option Addr} {m c : Nat} {es : List (Nat × Nat)} {B : Option Addr} {d s : Nat} {w : World} (ho : OkL n es) (h : EL w A m (cast es)) (hm : m ≤ 4096) (hl : IL w B (zs (bitsOf s))) (hE : setE n (zs (bitsOf s)) = 0) (hs : s < 4096) :
    ∀ w', Below w.heap.size w w' → Calls Tryd.prog 47 #[gV n A m c, .slice B (bitsOf s).length d] w' fun e w1 => e = .returned (.tuple #[lvV (adj es), .int .u64 (s : Nat), .int .i64 0]) ∧ Below w'.heap.size w' w1 := by
  have h1 := read_fine (d := d) (c := c) ho h hm hl (by have := (List.length_filter_le (fun i => s.testBit i) (List.range 64)); rw [List.length_range] at this; exact this) hE (bits_lt64 s)
  rw [ofM_bits (by omega)] at h1
  exact h1
theorem connected_s {n : Nat} {A : Option Addr} {m c : Nat} {es : List (Nat × Nat)} {B : Option Addr} {d s : Nat} {w : World} (ho : OkL n es) (h : EL w A m (cast es)) (hm : m ≤ 4096) (hl : IL w B (zs (bitsOf s))) (hE : setE n (zs (bitsOf s)) = 0) (hs : s < 4096) (hw : Good w) :
    Calls Tryd.prog 14 #[gV n A m c, .slice B (bitsOf s).length d] w fun e w' => e = .returned (.tuple #[.bool (conM (adj es) s), .int .i64 0]) ∧ Below w.heap.size w w' :=
  connected_ok _ _ _ (adj es) s w (read_s ho h hm hl hE hs) rfl rfl ho.under hs hw
theorem pieces_s {n : Nat} {A : Option Addr} {m c : Nat} {es : List (Nat × Nat)} {B : Option Addr} {d s : Nat} {w : World} (ho : OkL n es) (h : EL w A m (cast es)) (hm : m ≤ 4096) (hl : IL w B (zs (bitsOf s))) (hE : setE n (zs (bitsOf s)) = 0) (hs : s < 4096) (hw : Good w) :
    Calls Tryd.prog 15 #[gV n A m c, .slice B (bitsOf s).length d] w fun e w' => (∃ P q, e = .returned (.tuple #[.slice P ((pcsM (adj es) s).map bitsOf).length q, .int .i64 0]) ∧ LL 0 w' P ((pcsM (adj es) s).map bitsOf)) ∧ Below w.heap.size w w' :=
  (pieces_ok _ _ _ (adj es) s w (read_s ho h hm hl hE hs) rfl rfl ho.under hs hw).mono fun e w' ⟨v, h1, h2, h3⟩ => by
    obtain ⟨P, q, rfl, h4⟩ := h2.ll
    exact ⟨⟨P, q, h1, h4⟩, h3⟩
theorem neighbours_s {n : Nat} {A : Option Addr} {m c : Nat} {es : List (Nat × Nat)} {B : Option Addr} {d s : Nat} {w : World} (ho : OkL n es) (h : EL w A m (cast es)) (hm : m ≤ 4096) (hl : IL w B (zs (bitsOf s))) (hE : setE n (zs (bitsOf s)) = 0) (hs : s < 4096) (hw : Good w) :
    Calls Tryd.prog 16 #[gV n A m c, .slice B (bitsOf s).length d] w fun e w' => (∃ P q, e = .returned (.tuple #[.slice P (bitsOf (diff (stepM (adj es) s) s)).length q, .int .i64 0]) ∧ IL w' P (zs (bitsOf (diff (stepM (adj es) s) s)))) ∧ Below w.heap.size w w' :=
  (neighbours_ok _ _ _ (adj es) s w (read_s ho h hm hl hE hs) rfl rfl ho.under hs hw).mono fun e w' ⟨v, h1, h2, h3⟩ => by
    obtain ⟨P, q, rfl, h4⟩ := own_at h2
    exact ⟨⟨P, q, h1, h4.il⟩, h3⟩
theorem joints_s {n : Nat} {A : Option Addr} {m c : Nat} {es : List (Nat × Nat)} {B : Option Addr} {d s : Nat} {w : World} (ho : OkL n es) (h : EL w A m (cast es)) (hm : m ≤ 4096) (hl : IL w B (zs (bitsOf s))) (hE : setE n (zs (bitsOf s)) = 0) (hs : s < 4096) (hw : Good w) (hc : conM (adj es) s = true) :
    Calls Tryd.prog 28 #[gV n A m c, .slice B (bitsOf s).length d] w fun e w' => (∃ P q, e = .returned (.tuple #[.slice P (joM (adj es) s (bitsOf s)).length q, .int .i64 0]) ∧ IL w' P (zs (joM (adj es) s (bitsOf s)))) ∧ Below w.heap.size w w' :=
  (joints_ok _ _ _ _ _ (adj es) s w (read_s ho h hm hl hE hs) rfl rfl ho.under hs hw hc hl (by have := (List.length_filter_le (fun i => s.testBit i) (List.range 64)); rw [List.length_range] at this; exact this) (bits_lt64 s)).mono fun e w' ⟨v, h1, h2, h3⟩ => by
    obtain ⟨P, q, rfl, h4⟩ := own_at h2
    exact ⟨⟨P, q, h1, h4.il⟩, h3⟩
def cutsA (L : Nat → Nat) (s : Nat) : List (List Nat × List Nat) := ((sbs s ((bitsOf s).length - 1)).filter (isCut L s (Lib.ctz 64 s))).map fun x => (bitsOf x, bitsOf (diff s x))
def CL (w : World) (A : Option Addr) (cs : List (List Nat × List Nat)) : Prop :=
  ∀ k r, cs[k]? = some r → ∃ b o P c Q d, A = some ⟨b, o, none⟩ ∧ b < w.heap.size ∧ w.cell? ⟨b, o + k * 2, none⟩ = some (.slice P r.1.length c) ∧ w.cell? ⟨b, o + k * 2 + 1, none⟩ = some (.slice Q r.2.length d) ∧ IL w P (zs r.1) ∧ IL w Q (zs r.2)
theorem CL.keep {w w' : World} {A : Option Addr} {rs : List (List Nat × List Nat)} (h : CL w A rs) (hb : Below w.heap.size w w') : CL w' A rs :=
  fun k r hk => let ⟨b, o, P, c, Q, d, e1, hlt, hc, hd, hl, hm⟩ := h k r hk; ⟨b, o, P, c, Q, d, e1, Nat.lt_of_lt_of_le hlt hb.size, (hb.cell (p := ⟨b, o + k * 2, none⟩) hlt).trans hc, (hb.cell (p := ⟨b, o + k * 2 + 1, none⟩) hlt).trans hd, hl.keep hb, hm.keep hb⟩
theorem cflat_at : ∀ {qs : List Ct} {k : Nat} {q : Ct}, qs[k]? = some q → (cflat qs)[k * 2]? = some (.slice q.1.2.1 q.1.1.length q.1.2.2) ∧ (cflat qs)[k * 2 + 1]? = some (.slice q.2.2.1 q.2.1.length q.2.2.2)
  | [], k, q, h => by simp at h
  | x :: l, 0, q, h => by simp at h; subst h; simp [cflat]
  | x :: l, k + 1, q, h => by
    have h' : l[k]? = some q := by simpa using h
    obtain ⟨h1, h2⟩ := cflat_at h'
    have e1 : cflat (x :: l) = .slice x.1.2.1 x.1.1.length x.1.2.2 :: .slice x.2.2.1 x.2.1.length x.2.2.2 :: cflat l := rfl
    rw [e1, show (k + 1) * 2 = k * 2 + 1 + 1 by omega]
    exact ⟨by simpa using h1, by simpa using h2⟩
theorem OutC.cl {C : Nat} {w : World} {v : Value} {cs : List (List Nat × List Nat)} (h : OutC C w v cs) : ∃ A c, v = .slice A cs.length c ∧ CL w A cs := by
  obtain ⟨qs, rfl, h1, h2⟩ := h
  rcases h1.2 with ⟨rfl, h0⟩ | ⟨g, cap, cur, rfl, hg, hh, hnc, hcm, hcs, hx⟩
  · have : qs = [] := List.eq_nil_of_length_eq_zero h0
    subst this
    exact ⟨none, 0, rfl, fun k l hk => by simp at hk⟩
  · refine ⟨_, cap, by rw [List.length_map], fun k r hk => ?_⟩
    rw [List.getElem?_map] at hk
    obtain ⟨q, hq, rfl⟩ := Option.map_eq_some_iff.1 hk
    have hk2 : k < qs.length := by
      rcases Nat.lt_or_ge k qs.length with h1 | h1
      · exact h1
      · rw [List.getElem?_eq_none h1] at hq; cases hq
    obtain ⟨f1, f2⟩ := cflat_at hq
    have e1 : ∀ j, j < qs.length * 2 → cur.toList[j]? = (cflat qs)[j]? := fun j hj => by
      rw [← hx, List.getElem?_take_of_lt hj]
    obtain ⟨r1, r2⟩ := h2 q (List.mem_of_getElem? hq)
    refine ⟨g, 0, q.1.2.1, q.1.2.2, q.2.2.1, q.2.2.2, rfl, ?_, ?_, ?_, r1.nl.il, r2.nl.il⟩
    · rcases Nat.lt_or_ge g w.heap.size with h1 | h1
      · exact h1
      · rw [Array.getElem?_eq_none h1] at hh; cases hh
    · rw [cell_of_row _ _ _ _ _ _ hh, Nat.zero_add, ← Array.getElem?_toList, e1 _ (by omega), f1]
    · rw [cell_of_row _ _ _ _ _ _ hh, Nat.zero_add, ← Array.getElem?_toList, e1 _ (by omega), f2]
theorem fin_sbs : ∀ s, s < 64 → s ≠ 0 → 1 ≤ (bitsOf s).length ∧ (bitsOf s).length ≤ 12 ∧ (sbs s ((bitsOf s).length - 1)).length ≤ 100000 := by decide +kernel
theorem cuts_s {n : Nat} {A : Option Addr} {m c : Nat} {es : List (Nat × Nat)} {B : Option Addr} {d s : Nat} {w : World} (ho : OkL n es) (h : EL w A m (cast es)) (hm : m ≤ 4096) (hl : IL w B (zs (bitsOf s))) (hE : setE n (zs (bitsOf s)) = 0) (hs : s < 64) (h0 : s ≠ 0) (hw : Good w) (hc : conM (adj es) s = true) :
    Calls Tryd.prog 27 #[gV n A m c, .slice B (bitsOf s).length d] w fun e w' => (∃ P q, e = .returned (.tuple #[.slice P (cutsA (adj es) s).length q, .int .i64 0]) ∧ CL w' P (cutsA (adj es) s)) ∧ Below w.heap.size w w' := by
  obtain ⟨f1, f2, f3⟩ := fin_sbs s hs h0
  refine (cutsF_ok _ _ B (bitsOf s).length d (adj es) s (Lib.ctz 64 s) w (read_s ho h hm hl hE (by omega)) rfl rfl ho.under (by omega) hw hc f1 f2 f3 (ctz_in h0 (by omega)).1 (fun w' hb => ?_)).mono fun e w' ⟨v, h1, h2, h3⟩ => ?_
  · have hz : (zs (bitsOf s))[0]? = some ((Lib.ctz 64 s : Nat) : Int) := by rw [bits_low h0 (by omega)]; rfl
    obtain ⟨b, o, e1, _, hc0⟩ := (hl.keep hb) 0 _ hz
    exact ⟨b, o, e1, hc0⟩
  · obtain ⟨P, q, rfl, h4⟩ := h2.cl
    exact ⟨⟨P, q, h1, h4⟩, h3⟩
theorem il_lit (w : World) (l : List Int) (T : TypeId) : IL (w.alloc (.cells (l.map fun x => Value.int .i64 x).toArray T)) (some ⟨w.heap.size, 0, none⟩) l := fun k x hk => by
  have C := Cells.new w (l.map fun x => Value.int .i64 x).toArray T
  refine ⟨_, _, rfl, by simp, ?_⟩
  rw [Nat.zero_add, C.at_ k]
  simp [hk]
end Go.Proofs.YtdpfoegcmngdfaaDoor
