/- The first configuration of a choice. -/
import Derived.Test.YtmfmpkihmadjmaaVo
namespace Go.Proofs.Ytmfmpkihmadjmaa
open Go.RowKit Go.Shelf Go.Maps Go.WideMaps
theorem ownFrom_block {β : Type} {B k : Nat} {o : Obj} (hk : k < B) : OwnFrom (β := β) B (fun _ W => W.heap[k]? = some o) := fun s W W' row hs hg hr => by
  have hs' : W.heap[k]? = some o := hs
  have hlt : k < W.heap.size := by
    rcases Nat.lt_or_ge k W.heap.size with h1 | h1
    · exact h1
    · rw [Array.getElem?_eq_none h1] at hs'; cases hs'
  exact (hg.block k hlt (fun e => by have := (hr k e.symm).1; omega)).trans hs'
theorem strL_kept {W W' : World} {row : Option Nat} {A : Option Addr} {l : List ByteArray} (h : StrL W A l) (hg : W.grownBy W' row) (hr : ∀ r, row = some r → ∃ o : Obj, W.heap[r]? = some o ∧ o.isCells = false) : StrL W' A l :=
  fun k s hk => let ⟨b, o, e1, hlt, hc⟩ := h k s hk; ⟨b, o, e1, Nat.lt_of_lt_of_le hlt hg.size, cell_kept hc hg hr⟩
theorem c_same {w : World} {p j : Nat} {u v : Value} (h : w.cell? ⟨p, j, none⟩ = some u) : (w.setCell ⟨p, j, none⟩ v).cell? ⟨p, j, none⟩ = some v := World.cell?_setCell_same' _ _ _ (by rw [h]; rfl)
theorem c_other {w : World} {p q j i : Nat} {v : Value} (hne : p ≠ q) : (w.setCell ⟨q, i, none⟩ v).cell? ⟨p, j, none⟩ = w.cell? ⟨p, j, none⟩ := World.cell?_of_block (a := ⟨p, j, none⟩) (Below.heap_setCell w ⟨q, i, none⟩ v p hne)
theorem strL_set {w : World} {A : Option Addr} {l : List ByteArray} {q i : Nat} {v : Value} (h : StrL w A l) (hA : ∀ b o t, A = some ⟨b, o, t⟩ → 0 < l.length → b ≠ q) : StrL (w.setCell ⟨q, i, none⟩ v) A l := fun k s hk => by
  obtain ⟨b, o, e1, hlt, hc⟩ := h k s hk
  have hl : 0 < l.length := by
    cases l with
    | nil => cases hk
    | cons a l => simp
  exact ⟨b, o, e1, by simpa [World.setCell] using hlt, (c_other (hA b o none e1 hl)).trans hc⟩
/-- The names of the first configuration, if there is one. -/
def fstL (n : Nat) (os : List ByteArray) (rs : List (ByteArray × List (Nat × Bool))) (ch : List (Nat × Bool)) : List ByteArray :=
  match AL n rs ch with
  | [] => []
  | c :: _ => nmU os (fun i => c.testBit (11 - i)) n
section
attribute [local go_sem] Oper.semAt_some
set_option maxRecDepth 100000 in
set_option maxHeartbeats 8000000 in
theorem first_ok (f : Fm) (os : List ByteArray) (rs : List (ByteArray × List (Nat × Bool))) (gs : List (Nat × List (Nat × Bool))) (vs : List Ov) (ds : List Dm) (A : Option Addr) (m d : Nat) (ch : List (Nat × Bool)) (w : World) (h : FamOK w f os rs gs vs ds) (hl : LitL w A (lc ch)) (hm : ch.length = m) (hm2 : m ≤ 4611686018427387904) (hok : chE f.n none (lc ch) = 0) :
    Calls Try.prog 22 #[f.v, .slice A m d] w fun e w' => (∃ A' d', e = .returned (.tuple #[.slice A' (fstL f.n os rs ch).length d', .bool (!(AL f.n rs ch).isEmpty), .int .i64 0]) ∧ StrL w' A' (fstL f.n os rs ch)) ∧ Below w.heap.size w w' := by
  have k1 := (Below.refl w.heap.size w).alloc (Nat.le_refl _) (.cells f.cells 40)
  have P1 := heap_new w (.cells f.cells 40)
  have s1 : (w.alloc (.cells f.cells 40)).heap.size = w.heap.size + 1 := by simp
  obtain ⟨w1, hw1⟩ : ∃ u, w.alloc (.cells f.cells 40) = u := ⟨_, rfl⟩
  have hw1' : w.alloc (.cells #[.string f.nm, .slice f.PA f.pn f.pc, .slice f.IA f.iN f.ic, .slice f.DA f.dn f.dc, .slice f.KA f.kn f.kc, .slice f.QA f.qn f.qc, .slice f.OA f.n f.oc, .slice f.RA f.rn f.rc, .slice f.GA f.gn f.gc, .slice f.VA f.vn f.vc] 40) = w1 := hw1
  rw [hw1] at k1 P1 s1
  have k2 := k1.alloc (by omega) (.cells #[.slice none 0 0] 25)
  have C2 := Cells.new w1 #[.slice none 0 0] 25
  have s2 : (w1.alloc (.cells #[.slice none 0 0] 25)).heap.size = w.heap.size + 1 + 1 := by simp [s1]
  have P2 := heap_old (o := .cells #[.slice none 0 0] 25) P1
  rw [s1] at C2
  obtain ⟨w2, hw2⟩ : ∃ u, w1.alloc (.cells #[.slice none 0 0] 25) = u := ⟨_, rfl⟩
  rw [hw2] at k2 C2 s2 P2
  have k3 := k2.alloc (by omega) (.cells #[.bool false] 4)
  have C3 := Cells.new w2 #[.bool false] 4
  have C23 := C2.keep ((Below.refl w2.heap.size w2).alloc (Nat.le_refl _) (.cells #[.bool false] 4))
  have s3 : (w2.alloc (.cells #[.bool false] 4)).heap.size = w.heap.size + 1 + 1 + 1 := by simp [s2]
  have P3 := heap_old (o := .cells #[.bool false] 4) P2
  rw [s2] at C3
  obtain ⟨w3, hw3⟩ : ∃ u, w2.alloc (.cells #[.bool false] 4) = u := ⟨_, rfl⟩
  rw [hw3] at k3 C3 s3 P3 C23
  have k4 := k3.alloc (by omega) (.cells #[.int .i64 0] 43)
  have C4 := Cells.new w3 #[.int .i64 0] 43
  have C24 := C23.keep ((Below.refl w3.heap.size w3).alloc (Nat.le_refl _) (.cells #[.int .i64 0] 43))
  have C34 := C3.keep ((Below.refl w3.heap.size w3).alloc (Nat.le_refl _) (.cells #[.int .i64 0] 43))
  have s4 : (w3.alloc (.cells #[.int .i64 0] 43)).heap.size = w.heap.size + 1 + 1 + 1 + 1 := by simp [s3]
  have P4 := heap_old (o := .cells #[.int .i64 0] 43) P3
  rw [s3] at C4
  obtain ⟨w4, hw4⟩ : ∃ u, w3.alloc (.cells #[.int .i64 0] 43) = u := ⟨_, rfl⟩
  rw [hw4] at k4 C4 s4 P4 C24 C34
  have HK := checkBoth_any f os rs gs vs ds A m d (lc ch) w4 (h.keep k4) (hl.keep k4) (by rw [lc_len, hm]) hm2
  rw [hok] at HK
  have HK := Lib.hid HK
  have Q4 := Cells.of_row P4
  have K4 := Lib.hid k4
  have P4 := Lib.hid P4
  have c0 := Q4.at_ 0
  have c1 := Q4.at_ 1
  have c2 := Q4.at_ 2
  have c3 := Q4.at_ 3
  have c4 := Q4.at_ 4
  have c5 := Q4.at_ 5
  have c6 := Q4.at_ 6
  have c7 := Q4.at_ 7
  have c8 := Q4.at_ 8
  have c9 := Q4.at_ 9
  simp only [List.getElem?_cons_zero, List.getElem?_cons_succ] at c0 c1 c2 c3 c4 c5 c6 c7 c8 c9
  clear C2 C3 C23 P1 P2 P3 k1 k2 k3 k4
  refine (callsIn_wide (n := 6)).1 ?_
  refine callsIn_of_wp_marks Try.func22 rfl trivial ?_ rfl
  simp only [Try.ntmps22, List.size_toArray, List.length_cons, List.length_nil, Nat.reduceAdd, Nat.reduceSub, Array.replicate_succ, Array.replicate_zero, List.push_toArray, List.append_toArray, List.nil_append, List.cons_append]
  clear hw1
  gi_wp2_with (first
    | (refine ⟨trivial, ?_⟩; gi_at_call 44; refine (callsIn_wide.2 HK.out).mono ?_; rintro e w5 ⟨rfl, hb5⟩; clear c0 c1 c2 c3 c4 c5 c6 c7 c8 c9 hw1' hw2 hw3 hw4; have P5 := (hb5.block w.heap.size (by omega)).trans P4.out; have Q5 := Cells.of_row P5; have D2 := C24.keep hb5; have D3 := C34.keep hb5; have D4 := C4.keep hb5; have K5 := below_on K4.out hb5; have c0 := Q5.at_ 0; have c1 := Q5.at_ 1; have c2 := Q5.at_ 2; have c3 := Q5.at_ 3; have c4 := Q5.at_ 4; have c5 := Q5.at_ 5; have c6 := Q5.at_ 6; have c7 := Q5.at_ 7; have c8 := Q5.at_ 8; have c9 := Q5.at_ 9; simp only [List.getElem?_cons_zero, List.getElem?_cons_succ] at c0 c1 c2 c3 c4 c5 c6 c7 c8 c9)
    | (refine ⟨trivial, ?_⟩; gi_at_call 45; refine (callsIn_wide.2 (allowed_any f A m d _)).mono ?_; rintro e w' ⟨rfl, rfl⟩))
  have hs5 : w.heap.size + 1 + 1 + 1 + 1 ≤ w5.heap.size := by have := hb5.size; omega
  clear c0 c1 c2 c3 c4 c5 c6 c7 c8 c9 C24 C34 C4 Q4 Q5 P4 hb5 HK
  obtain ⟨q, hq⟩ : ∃ q, w5.heap.size = q := ⟨_, rfl⟩
  have k6 := K5.alloc (by omega) (.cells f.cells 40)
  have hF := heap_new w5 (.cells f.cells 40)
  have s6 : (w5.alloc (.cells f.cells 40)).heap.size = q + 1 := by simp [hq]
  have kk := (Below.refl w5.heap.size w5).alloc (Nat.le_refl _) (.cells f.cells 40)
  have D2 := D2.keep kk
  have D3 := D3.keep kk
  have D4 := D4.keep kk
  have P6 := heap_old (o := .cells f.cells 40) P5
  rw [hq] at hF hs5 ⊢
  obtain ⟨w6, hw6⟩ : ∃ u, w5.alloc (.cells f.cells 40) = u := ⟨_, rfl⟩
  rw [hw6] at k6 hF s6 D2 D3 D4 P6 ⊢
  have k7 := k6.alloc (by omega) (.cells #[.slice A m d] 55)
  have hC := heap_new w6 (.cells #[.slice A m d] 55)
  have hF := heap_old (o := .cells #[.slice A m d] 55) hF
  have s7 : (w6.alloc (.cells #[.slice A m d] 55)).heap.size = q + 1 + 1 := by simp [s6]
  have kk2 := (Below.refl w6.heap.size w6).alloc (Nat.le_refl _) (.cells #[.slice A m d] 55)
  have D2 := D2.keep kk2
  have D3 := D3.keep kk2
  have D4 := D4.keep kk2
  have P7 := heap_old (o := .cells #[.slice A m d] 55) P6
  rw [s6] at hC
  obtain ⟨w7, hw7⟩ : ∃ u, w6.alloc (.cells #[.slice A m d] 55) = u := ⟨_, rfl⟩
  rw [hw7] at k7 s7 hC hF D2 D3 D4 P7 ⊢
  clear hw6 hw7 kk kk2 K5 k6 P5 P6 s6
  have e2 := D2.at_ 0
  have e3 := D3.at_ 0
  have e4 := D4.at_ 0
  simp only [List.getElem?_cons_zero] at e2 e3 e4
  refine wpIn_rangeFunc_ownF rfl (by omega) (gf := 69) (lb := #[.pointer (some ⟨q, 0, none⟩), .pointer (some ⟨q + 1, 0, none⟩)]) rfl trivial (enters_of Try.func69 (by kernel_rfl) rfl)
    (allowed_stops w w7 f A m d rs ch (fun k => k = w.heap.size + 1 ∨ k = w.heap.size + 1 + 1 ∨ k = w.heap.size + 1 + 1 + 1) q (q + 1) _ _ k7 h.n12 hl hm (lowL_of hok h.n12) hm2 h.rsL h.rsl h.low (by have := h.r48; omega) hF hC (fun k h => by rcases h with h | h | h <;> subst h <;> omega) _) kpV_t (kpV_b (by omega)) (Below.refl _ _) (fun _ => rfl)
    (fun pre W => (pre = [] ∧ W.heap[w.heap.size]? = some (.cells f.cells 40) ∧ (W.cell? ⟨w.heap.size + 1, 0, none⟩ = some (.slice none 0 0) ∧ W.frozen? ⟨w.heap.size + 1, 0, none⟩ = false) ∧ (W.cell? ⟨w.heap.size + 1 + 1, 0, none⟩ = some (.bool false) ∧ W.frozen? ⟨w.heap.size + 1 + 1, 0, none⟩ = false) ∧ W.cell? ⟨w.heap.size + 1 + 1 + 1, 0, none⟩ = some (.int .i64 0) ∧ W.frozen? ⟨w.heap.size + 1 + 1 + 1, 0, none⟩ = false) ∧ Below w.heap.size w W)
    (fun c pre W => (c = .ret ∧ ∃ x : Cf, pre = [x] ∧ ∃ A' d', W.cell? ⟨w.heap.size + 1, 0, none⟩ = some (.slice A' (nmU os (fun i => x.1.testBit (11 - i)) f.n).length d') ∧ StrL W A' (nmU os (fun i => x.1.testBit (11 - i)) f.n) ∧ W.cell? ⟨w.heap.size + 1 + 1, 0, none⟩ = some (.bool true) ∧ W.cell? ⟨w.heap.size + 1 + 1 + 1, 0, none⟩ = some (.int .i64 0)) ∧ Below w.heap.size w W)
    (fun s W W' row hs hg hr => by
      obtain ⟨⟨h1, h2, ⟨h3, h4⟩, ⟨h5, h6⟩, h7, h8⟩, hB⟩ := hs
      have hr' := fun r e => (hr r e).2
      exact ⟨⟨h1, ownFrom_block (β := List Cf) (B := w7.heap.size) (by omega) s W W' row h2 hg hr, ⟨cell_kept h3 hg hr', (frozen_kept h3 hg hr').trans h4⟩, ⟨cell_kept h5 hg hr', (frozen_kept h5 hg hr').trans h6⟩, cell_kept h7 hg hr', (frozen_kept h7 hg hr').trans h8⟩, ownFrom_below (β := List Cf) (Nat.le_refl _) (by omega) s W W' row hB hg hr⟩)
    (fun c s W W' row hs hg hr => by
      obtain ⟨⟨h1, x, h2, A', d', h3, h4, h5, h6⟩, hB⟩ := hs
      have hr' := fun r e => (hr r e).2
      exact ⟨⟨h1, x, h2, A', d', cell_kept h3 hg hr', strL_kept h4 hg hr', cell_kept h5 hg hr', cell_kept h6 hg hr'⟩, ownFrom_below (β := List Cf) (Nat.le_refl _) (by omega) s W W' row hB hg hr⟩)
    ⟨⟨rfl, P7, ⟨e2, D2.fz 0⟩, ⟨e3, D3.fz 0⟩, e4, D4.fz 0⟩, k7⟩
    (fun x : Cf => { tmps := #[f.v, .slice A m d, .pointer (some ⟨w.heap.size, 0, none⟩), undef, .pointer (some ⟨w.heap.size + 1, 0, none⟩), .pointer (some ⟨w.heap.size + 1 + 1, 0, none⟩), .pointer (some ⟨w.heap.size + 1 + 1 + 1, 0, none⟩), .int .i64 0, .int .u64 (x.1 : Nat), f.v, .slice A m d, .int .i64 0, .int .i64 0, .bool false, undef, f.v, .slice A m d, .func (.func 69) #[] #[.pointer (some ⟨q, 0, none⟩), .pointer (some ⟨q + 1, 0, none⟩)], .int .u64 (x.1 : Nat), undef, undef, undef], defers := [] }) ?assign ?body ?done ?stop
  case assign =>
    intro l x W K hK
    gi_wp2
    first | exact hK | (simp; exact hK) | simpa using hK
  case body =>
    rintro l pre x W ⟨⟨hp, hP, ⟨h3, h4⟩, ⟨h5, h6⟩, h7, h8⟩, hB⟩ _
    have QW := Cells.of_row hP
    have c0 := QW.at_ 0
    have c1 := QW.at_ 1
    have c2 := QW.at_ 2
    have c3 := QW.at_ 3
    have c4 := QW.at_ 4
    have c5 := QW.at_ 5
    have c6 := QW.at_ 6
    have c7 := QW.at_ 7
    have c8 := QW.at_ 8
    have c9 := QW.at_ 9
    simp only [List.getElem?_cons_zero, List.getElem?_cons_succ] at c0 c1 c2 c3 c4 c5 c6 c7 c8 c9
    have hsW : w.heap.size + 1 + 1 + 1 < W.heap.size := World.block_lt_of_cell? _ _ h7
    have HN := names_any f os x.1 W (h.osL.keep hB) h.osl h.n12 x.2
    obtain ⟨L, hL⟩ : ∃ L, nmU os (fun i => x.1.testBit (11 - i)) f.n = L := ⟨_, rfl⟩
    rw [hL] at HN
    have HN := Lib.hid HN
    gi_wp2_with (refine ⟨trivial, ?_⟩; gi_at_call 46; refine (CallsIn.inRound l (callsIn_wide.2 HN.out)).mono ?_; rintro e w' ⟨v, rfl, hown, hb⟩; obtain ⟨A', d', rfl, hsl, hbs⟩ := own_strs hown; have h3 := (hb.cell (p := ⟨w.heap.size + 1, 0, none⟩) (by simp; omega)).trans h3; have h4 := (hb.frozen (p := ⟨w.heap.size + 1, 0, none⟩) (by simp; omega)).trans h4; have h5 := (hb.cell (p := ⟨w.heap.size + 1 + 1, 0, none⟩) (by simp; omega)).trans h5; have h6 := (hb.frozen (p := ⟨w.heap.size + 1 + 1, 0, none⟩) (by simp; omega)).trans h6; have h7 := (hb.cell (p := ⟨w.heap.size + 1 + 1 + 1, 0, none⟩) hsW).trans h7; have h8 := (hb.frozen (p := ⟨w.heap.size + 1 + 1 + 1, 0, none⟩) hsW).trans h8; clear c0 c1 c2 c3 c4 c5 c6 c7 c8 c9)
    have b1 : w.heap.size + 1 ≠ w.heap.size + 1 + 1 := by omega
    have b2 : w.heap.size + 1 ≠ w.heap.size + 1 + 1 + 1 := by omega
    have b3 : w.heap.size + 1 + 1 ≠ w.heap.size + 1 + 1 + 1 := by omega
    refine ⟨(KeepsOthers.of_grownBy (grown_below hb) (fun j o e => by cases e)).trans ((KeepsOthers.setCell _ _ _).trans ((KeepsOthers.setCell _ _ _).trans (KeepsOthers.setCell _ _ _))), ⟨rfl, x, by rw [hp]; rfl, A', d', ?_, ?_, ?_, ?_⟩, ?_⟩
    · rw [hL, c_other b2, c_other b1]; exact c_same h3
    · rw [hL]
      exact strL_set (strL_set (strL_set hsl (fun b o t e hl => by have := hbs b o t e hl; omega)) (fun b o t e hl => by have := hbs b o t e hl; omega)) (fun b o t e hl => by have := hbs b o t e hl; omega)
    · rw [c_other b3]; exact c_same ((c_other (Ne.symm b1)).trans h5)
    · exact c_same (((c_other (Ne.symm b3)).trans (c_other (Ne.symm b2))).trans h7)
    · exact (((hB.trans (hb.mono hB.size)).setCell (p := ⟨w.heap.size + 1, 0, none⟩) (by simp) _).setCell (p := ⟨w.heap.size + 1 + 1, 0, none⟩) (by simp; omega) _).setCell (p := ⟨w.heap.size + 1 + 1 + 1, 0, none⟩) (by simp; omega) _
  case done =>
    rintro D ys W hD hys ⟨⟨hp, hP, ⟨h3, h4⟩, ⟨h5, h6⟩, h7, h8⟩, hB⟩ hK
    have hAL : AL f.n rs ch = [] := List.map_eq_nil_iff.1 (hys.symm.trans hp)
    have hAL := Lib.hid hAL
    have b1 : w.heap.size + 1 ≠ w.heap.size + 1 + 1 := by omega
    have b2 : w.heap.size + 1 ≠ w.heap.size + 1 + 1 + 1 := by omega
    have b3 : w.heap.size + 1 + 1 ≠ w.heap.size + 1 + 1 + 1 := by omega
    gi_wp2
    have hK' := ((KeepsOthers.setCell W ⟨w.heap.size + 1, 0, none⟩ (.slice none 0 0)).trans ((KeepsOthers.setCell _ ⟨w.heap.size + 1 + 1, 0, none⟩ (.bool false)).trans (KeepsOthers.setCell _ ⟨w.heap.size + 1 + 1 + 1, 0, none⟩ (.int .i64 0)))).same D _ hK rfl
    refine ⟨by simp, .inl ⟨_, _, rfl, run_takeDeferred hK', ?_⟩⟩
    have hkk : ∀ r, (some D : Option Nat) = some r → ∃ o : Obj, (((W.setCell ⟨w.heap.size + 1, 0, none⟩ (.slice none 0 0)).setCell ⟨w.heap.size + 1 + 1, 0, none⟩ (.bool false)).setCell ⟨w.heap.size + 1 + 1 + 1, 0, none⟩ (.int .i64 0)).heap[r]? = some o ∧ o.isCells = false := fun r e => by cases e; exact ⟨_, hK', rfl⟩
    have r3 := cell_kept ((c_other b2).trans ((c_other b1).trans (c_same h3))) (grownBy_putObj' _ D (.deferred none)) hkk
    have r5 := cell_kept ((c_other b3).trans (c_same ((c_other (Ne.symm b1)).trans h5))) (grownBy_putObj' _ D (.deferred none)) hkk
    have r7 := cell_kept (c_same (((c_other (Ne.symm b3)).trans (c_other (Ne.symm b2))).trans h7)) (grownBy_putObj' _ D (.deferred none)) hkk
    refine ⟨.tuple #[.slice none 0 0, .bool false, .int .i64 0], ?_, ⟨none, 0, ?_, ?_⟩, (((hB.setCell (p := ⟨w.heap.size + 1, 0, none⟩) (by simp) _).setCell (p := ⟨w.heap.size + 1 + 1, 0, none⟩) (by simp; omega) _).setCell (p := ⟨w.heap.size + 1 + 1 + 1, 0, none⟩) (by simp; omega) _).trans (belowK_b (w := w) (Nat.le_refl _) _ D _ _ (by omega) hK' rfl rfl)⟩
    · simp [results, Try.f22, go_sem, r3, r5, r7]
    · unfold fstL; rw [hAL.out]; rfl
    · intro k s hk
      unfold fstL at hk; rw [hAL.out] at hk; cases hk
  case stop =>
    rintro D c pre W hD ⟨hpre, hne⟩ ⟨⟨rfl, x, hpx, A', d', h3, h4, h5, h6⟩, hB⟩ hK
    obtain ⟨cs, hcs⟩ : ∃ cs, AL f.n rs ch = x.1 :: cs := by
      obtain ⟨qq, hq⟩ := hpre
      rw [hpx] at hq
      cases hA : AL f.n rs ch with
      | nil => rw [hA] at hq; cases hq
      | cons a cs =>
        rw [hA] at hq
        injection hq with hq _
        have ha : a ∈ AL f.n rs ch := by rw [hA]; exact List.mem_cons_self ..
        have halt : a < 18446744073709551616 := by
          unfold AL alU at ha
          obtain ⟨k, _, hk⟩ := List.mem_map.1 (List.mem_filter.1 ha).1
          rw [← hk]; exact cfg_lt f.n k h.n12
        refine ⟨cs, ?_⟩
        rw [hq, cF_val halt]
    have hcs := Lib.hid hcs
    gi_wp2
    have hkk : ∀ r, (some D : Option Nat) = some r → ∃ o : Obj, W.heap[r]? = some o ∧ o.isCells = false := fun r e => by cases e; exact ⟨_, hK, rfl⟩
    have r3 := cell_kept h3 (grownBy_putObj' _ D (.deferred none)) hkk
    have r4 := strL_kept h4 (grownBy_putObj' _ D (.deferred none)) hkk
    have r5 := cell_kept h5 (grownBy_putObj' _ D (.deferred none)) hkk
    have r6 := cell_kept h6 (grownBy_putObj' _ D (.deferred none)) hkk
    refine ⟨by simp, .inl ⟨_, _, rfl, run_takeDeferred hK, ?_⟩⟩
    refine ⟨.tuple #[.slice A' (nmU os (fun i => x.1.testBit (11 - i)) f.n).length d', .bool true, .int .i64 0], ?_, ⟨A', d', ?_, ?_⟩, hB.trans (belowK_b (w := w) (Nat.le_refl _) W D _ _ (by omega) hK rfl rfl)⟩
    · simp [results, Try.f22, go_sem, r3, r5, r6]
    · unfold fstL; rw [hcs.out]; rfl
    · unfold fstL; rw [hcs.out]; exact r4
end
end Go.Proofs.Ytmfmpkihmadjmaa
