/- Liaisons: the first error of any graph and set. -/
import Derived.Test.YtdpfoegcmngdfaaDoorLz
import Derived.Test.YtdpfoegcmngdfaaDoorRs
import Derived.Test.YtdpfoegcmngdfaaDoorRc
namespace Go.Proofs.YtdpfoegcmngdfaaDoor
open Go.RowKit
def natE (es : List (Int × Int)) : List (Nat × Nat) := es.map fun e => (e.1.toNat, e.2.toNat)
def liE (n : Int) (es : List (Int × Int)) : Int := if checkG n es ≠ 0 then checkG n es else if 12 < n then 6 else liN (natE es)
def wantE (n : Int) (es : List (Int × Int)) (l : List Int) : Int := if liE n es ≠ 0 then liE n es else setE n l
theorem chk_nat {n : Int} {es : List (Int × Int)} (h : checkG n es = 0) : ∃ k : Nat, n = k ∧ es = cast (natE es) ∧ Low k (natE es) := by
  unfold checkG at h
  split at h
  · cases h
  · next h1 =>
    split at h
    · cases h
    · split at h
      · cases h
      · next h3 =>
        have hall : es.all (okE n) = true := by
          cases e : es.all (okE n) with
          | true => rfl
          | false => exact absurd e h3
        obtain ⟨k, rfl⟩ : ∃ k : Nat, n = k := ⟨n.toNat, by omega⟩
        rw [List.all_eq_true] at hall
        refine ⟨k, rfl, ?_, ?_⟩
        · unfold cast natE
          rw [List.map_map]
          conv => lhs; rw [← List.map_id es]
          refine List.map_congr_left fun x hx => ?_
          have := hall x hx
          unfold okE at this
          simp only [Bool.and_eq_true, decide_eq_true_eq] at this
          obtain ⟨a, b⟩ := x
          simp only [Function.comp_apply, id] at this ⊢
          rw [Int.toNat_of_nonneg (by omega), Int.toNat_of_nonneg (by omega)]
        · intro e he
          obtain ⟨x, hx, rfl⟩ := List.mem_map.1 he
          have := hall x hx
          unfold okE at this
          simp only [Bool.and_eq_true, decide_eq_true_eq] at this
          simp only
          omega
theorem liE_any (n : Int) (A : Option Addr) (m c : Nat) (es : List (Int × Int)) (w : World) (h : EL w A m es) (hm : m ≤ 4096) :
    Calls Tryd.prog 12 #[gV n A m c] w fun e w' => e = .returned (.int .i64 (liE n es)) ∧ Below w.heap.size w w' := by
  by_cases hc : checkG n es = 0
  · obtain ⟨k, rfl, he, hl⟩ := chk_nat hc
    unfold liE
    rw [if_neg (by rw [hc]; simp)]
    rw [he] at h hc
    have h1 := liCheck_any k A m c (natE es) w h hm hc
    have e1 : (if (12 : Int) < (k : Int) then (6 : Int) else liN (natE es)) = if 12 < k then 6 else liN (natE es) := by
      by_cases hk : 12 < k
      · rw [if_pos hk, if_pos (by omega)]
      · rw [if_neg hk, if_neg (by omega)]
    rw [e1]; exact h1
  · unfold liE
    rw [if_pos hc]
    exact liCheck_bad n A m c es w h hm hc
theorem refE_any (n : Int) (A : Option Addr) (m c : Nat) (es : List (Int × Int)) (w : World) (h : EL w A m es) (hm : m ≤ 4096) :
    Calls Tryd.prog 11 #[gV n A m c] w fun e w' => e = .returned (.int .i64 (liE n es)) ∧ Below w.heap.size w w' := by
  by_cases hc : checkG n es = 0
  · obtain ⟨k, rfl, he, hl⟩ := chk_nat hc
    unfold liE
    rw [if_neg (by rw [hc]; simp)]
    rw [he] at h hc
    have h1 := refCheck_any k A m c (natE es) w h hm hc
    have e1 : (if (12 : Int) < (k : Int) then (6 : Int) else liN (natE es)) = if 12 < k then 6 else liN (natE es) := by
      by_cases hk : 12 < k
      · rw [if_pos hk, if_pos (by omega)]
      · rw [if_neg hk, if_neg (by omega)]
    rw [e1]; exact h1
  · unfold liE
    rw [if_pos hc]
    exact refCheck_bad n A m c es w h hm hc
theorem ofM_12 {l : List Nat} (h : ∀ v ∈ l, v < 12) : ofM l < 4096 := under_lt (k := 12) fun v hv => by
  rw [ofM_bit] at hv; exact h v (List.contains_iff_mem.1 hv)
theorem read_E (n : Int) (A : Option Addr) (m c : Nat) (es : List (Int × Int)) (B : Option Addr) (d : Nat) (l : List Int) (w : World) (h : EL w A m es) (hm : m ≤ 4096) (hl : IL w B l) (hll : l.length ≤ 64) :
    (wantE n es l ≠ 0 ∧ ∀ w', Below w.heap.size w w' → Calls Tryd.prog 47 #[gV n A m c, .slice B l.length d] w' fun e w1 => e = .returned (.tuple #[lvV fun _ => 0, .int .u64 0, .int .i64 (wantE n es l)]) ∧ Below w'.heap.size w' w1) ∨
    (wantE n es l = 0 ∧ 1 ≤ l.length ∧ ∃ (L : Nat → Nat) (s : Nat), (∀ i, Under 64 (L i)) ∧ s < 4096 ∧ ∀ w', Below w.heap.size w w' → Calls Tryd.prog 47 #[gV n A m c, .slice B l.length d] w' fun e w1 => e = .returned (.tuple #[lvV L, .int .u64 (s : Nat), .int .i64 0]) ∧ Below w'.heap.size w' w1) := by
  have HC := fun w' (hb : Below w.heap.size w w') => liE_any n A m c es w' (h.keep hb) hm
  by_cases h1 : liE n es = 0
  · have hw : wantE n es l = setE n l := by unfold wantE; rw [if_neg (by rw [h1]; simp)]
    rw [hw]
    rw [h1] at HC
    by_cases h2 : setE n l = 0
    · refine .inr ⟨h2, ?_, ?_⟩
      · unfold setE at h2
        split at h2
        · cases h2
        · omega
      · have hc : checkG n es = 0 := by
          by_cases hc : checkG n es = 0
          · exact hc
          · unfold liE at h1; rw [if_pos hc] at h1; exact absurd h1 hc
        obtain ⟨k, rfl, he, hlo⟩ := chk_nat hc
        have h12 : k ≤ 12 := by
          unfold liE at h1
          rw [if_neg (by rw [hc]; simp)] at h1
          split at h1
          · cases h1
          · omega
        have hli : liN (natE es) = 0 := by
          unfold liE at h1
          rw [if_neg (by rw [hc]; simp), if_neg (by omega)] at h1
          exact h1
        rw [he] at h hc
        have hmem : memE (k : Int) l = 0 := by
          unfold setE at h2
          split at h2
          · cases h2
          · exact h2
        have hin := mem_ok hmem
        have hz : zs (l.map Int.toNat) = l := zs_toNat fun x hx => ⟨(hin x hx).1, by have := (hin x hx).2; omega⟩
        have h12' : ∀ v ∈ l.map Int.toNat, v < 12 := fun v hv => by
          obtain ⟨x, hx, rfl⟩ := List.mem_map.1 hv
          have := hin x hx
          omega
        have ho : OkL k (natE es) := ⟨low_up hlo h12, hc, h12, hli⟩
        have hr := read_fine (d := d) (c := c) ho h hm (B := B) (l := l.map Int.toNat) (by rw [hz]; exact hl) (by rw [List.length_map]; exact hll) (by rw [hz]; exact h2) (fun v hv => Nat.lt_trans (h12' v hv) (by omega))
        rw [List.length_map] at hr
        exact ⟨adj (natE es), ofM (l.map Int.toNat), ho.under, ofM_12 h12', hr⟩
    · exact .inl ⟨h2, fun w' hb => read_badS n A m c B d l w' (fun w2 hb2 => HC w2 (below_on hb hb2)) (hl.keep hb) (by omega) h2⟩
  · have hw : wantE n es l = liE n es := by unfold wantE; rw [if_pos h1]
    rw [hw]
    exact .inl ⟨h1, fun w' hb => read_bad n A m c B l.length d (liE n es) w' (fun w2 hb2 => HC w2 (below_on hb hb2)) h1⟩
theorem con_E (n : Int) (A : Option Addr) (m c : Nat) (es : List (Int × Int)) (B : Option Addr) (d : Nat) (l : List Int) (w : World) (h : EL w A m es) (hm : m ≤ 4096) (hl : IL w B l) (hll : l.length ≤ 64) (hw : Good w) : Calls Tryd.prog 14 #[gV n A m c, .slice B l.length d] w fun e w' => (∃ v, e = .returned (.tuple #[v, .int .i64 (wantE n es l)])) ∧ Below w.heap.size w w' := by
  rcases read_E n A m c es B d l w h hm hl hll with ⟨h1, hr⟩ | ⟨h1, _, L, s, hL, hs, hr⟩
  · exact (connected_bad _ _ _ _ w hr h1 rfl rfl).mono fun e w' ⟨e1, e2⟩ => ⟨⟨_, e1⟩, e2⟩
  · rw [h1]; exact (connected_ok _ _ _ L s w hr rfl rfl hL hs hw).mono fun e w' ⟨e1, e2⟩ => ⟨⟨_, e1⟩, e2⟩
theorem pie_E (n : Int) (A : Option Addr) (m c : Nat) (es : List (Int × Int)) (B : Option Addr) (d : Nat) (l : List Int) (w : World) (h : EL w A m es) (hm : m ≤ 4096) (hl : IL w B l) (hll : l.length ≤ 64) (hw : Good w) : Calls Tryd.prog 15 #[gV n A m c, .slice B l.length d] w fun e w' => (∃ v, e = .returned (.tuple #[v, .int .i64 (wantE n es l)])) ∧ Below w.heap.size w w' := by
  rcases read_E n A m c es B d l w h hm hl hll with ⟨h1, hr⟩ | ⟨h1, _, L, s, hL, hs, hr⟩
  · exact (pieces_bad _ _ _ _ w hr h1 rfl rfl).mono fun e w' ⟨e1, e2⟩ => ⟨⟨_, e1⟩, e2⟩
  · rw [h1]; exact (pieces_ok _ _ _ L s w hr rfl rfl hL hs hw).mono fun e w' ⟨v, e1, _, e2⟩ => ⟨⟨v, e1⟩, e2⟩
theorem nei_E (n : Int) (A : Option Addr) (m c : Nat) (es : List (Int × Int)) (B : Option Addr) (d : Nat) (l : List Int) (w : World) (h : EL w A m es) (hm : m ≤ 4096) (hl : IL w B l) (hll : l.length ≤ 64) (hw : Good w) : Calls Tryd.prog 16 #[gV n A m c, .slice B l.length d] w fun e w' => (∃ v, e = .returned (.tuple #[v, .int .i64 (wantE n es l)])) ∧ Below w.heap.size w w' := by
  rcases read_E n A m c es B d l w h hm hl hll with ⟨h1, hr⟩ | ⟨h1, _, L, s, hL, hs, hr⟩
  · exact (neighbours_bad _ _ _ _ w hr h1 rfl rfl).mono fun e w' ⟨e1, e2⟩ => ⟨⟨_, e1⟩, e2⟩
  · rw [h1]; exact (neighbours_ok _ _ _ L s w hr rfl rfl hL hs hw).mono fun e w' ⟨v, e1, _, e2⟩ => ⟨⟨v, e1⟩, e2⟩
theorem ch_one (c : Nat) : ∀ F : List Nat, (chL F c 1).length ≤ F.length
  | [] => Nat.le_refl _
  | x :: F => by
    rw [chL, List.length_append, List.length_cons]
    have : (chL F c (0 + 1)).length ≤ F.length := ch_one c F
    have e : (chL F (c ||| 2 ^ x) 0).length = 1 := by cases F <;> rfl
    omega
theorem sub_E (n : Int) (A : Option Addr) (m c : Nat) (es : List (Int × Int)) (B : Option Addr) (d : Nat) (l : List Int) (w : World) (h : EL w A m es) (hm : m ≤ 4096) (hl : IL w B l) (hll : l.length ≤ 64) (hw : Good w) : Calls Tryd.prog 17 #[gV n A m c, .slice B l.length d, .int .i64 1] w fun e w' => (∃ v, e = .returned (.tuple #[v, .int .i64 (wantE n es l)])) ∧ Below w.heap.size w w' := by
  rcases read_E n A m c es B d l w h hm hl hll with ⟨h1, hr⟩ | ⟨h1, hl1, L, s, hL, hs, hr⟩
  · exact (subsetsF_bad _ _ _ _ _ w hr h1 rfl rfl).mono fun e w' ⟨e1, e2⟩ => ⟨⟨_, e1⟩, e2⟩
  · rw [h1]
    have hb : (sbs s 1).length ≤ 100000 := by
      have e1 : sbs s 1 = chL (bitsOf s) 0 1 := by unfold sbs; simp [List.range_succ]
      rw [e1]
      have := ch_one 0 (bitsOf s)
      have h2 := List.length_filter_le (fun i => s.testBit i) (List.range 64)
      rw [List.length_range] at h2
      have e2 : bitsOf s = (List.range 64).filter fun i => s.testBit i := rfl
      rw [e2] at this ⊢
      omega
    exact (subsetsF_ok _ _ B l.length d L s 1 w hr rfl rfl hL hs hw (by omega) (by omega) hl1 hb).mono fun e w' ⟨v, e1, _, e2⟩ => ⟨⟨v, e1⟩, e2⟩
end Go.Proofs.YtdpfoegcmngdfaaDoor
