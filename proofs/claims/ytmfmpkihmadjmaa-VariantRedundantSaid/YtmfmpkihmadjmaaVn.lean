/- How many configurations a choice has. -/
import Derived.Test.YtmfmpkihmadjmaaVc
import Derived.Test.YtmfmpkihmadjmaaVp
namespace Go.Proofs.Ytmfmpkihmadjmaa
open Go.RowKit Go.Shelf Go.Maps Go.WideMaps
set_option maxRecDepth 100000 in
set_option maxHeartbeats 4000000 in
theorem checkBoth_any (f : Fm) (os : List ByteArray) (rs : List (ByteArray × List (Nat × Bool))) (gs : List (Nat × List (Nat × Bool))) (vs : List Ov) (ds : List Dm) (A : Option Addr) (m d : Nat) (ls : List (Int × Bool)) (w : World) (h : FamOK w f os rs gs vs ds) (hl : LitL w A ls) (hm : ls.length = m) (hm2 : m ≤ 4611686018427387904) :
    Calls Try.prog 44 #[f.v, .slice A m d] w fun e w' => e = .returned (.int .i64 (chE f.n none ls)) ∧ Below w.heap.size w w' := by
  have hn12 := h.n12
  have k1 := (Below.refl w.heap.size w).alloc (Nat.le_refl _) (.cells f.cells 40)
  have P1 := Cells.new w f.cells 40
  have s1 : (w.alloc (.cells f.cells 40)).heap.size = w.heap.size + 1 := by simp
  obtain ⟨w1, hw1⟩ : ∃ u, w.alloc (.cells f.cells 40) = u := ⟨_, rfl⟩
  have hw1' : w.alloc (.cells #[.string f.nm, .slice f.PA f.pn f.pc, .slice f.IA f.iN f.ic, .slice f.DA f.dn f.dc, .slice f.KA f.kn f.kc, .slice f.QA f.qn f.qc, .slice f.OA f.n f.oc, .slice f.RA f.rn f.rc, .slice f.GA f.gn f.gc, .slice f.VA f.vn f.vc] 40) = w1 := hw1
  rw [hw1] at k1 P1 s1
  have HK := Lib.hid (check_ok f os rs gs vs ds w1 (h.keep k1))
  have HC := Lib.hid (fun w' (hb : Below w.heap.size w w') => checkChoice_any f A m d ls w' (hl.keep hb) hm hm2 (by omega))
  have P1 := Lib.hid P1
  have K1 := Lib.hid k1
  clear h hl k1 s1 hm
  have c0 := P1.out.at_ 0
  have c1 := P1.out.at_ 1
  have c2 := P1.out.at_ 2
  have c3 := P1.out.at_ 3
  have c4 := P1.out.at_ 4
  have c5 := P1.out.at_ 5
  have c6 := P1.out.at_ 6
  have c7 := P1.out.at_ 7
  have c8 := P1.out.at_ 8
  have c9 := P1.out.at_ 9
  simp only [List.getElem?_cons_zero, List.getElem?_cons_succ] at c0 c1 c2 c3 c4 c5 c6 c7 c8 c9
  clear hw1
  go_enter Try.func44, Try.ntmps44
  go_wp2_with fail
  refine HK.out.mono ?_
  rintro e w2 ⟨rfl, hb2⟩
  have B2 := Lib.hid (below_on K1.out hb2)
  have P2 := Lib.hid (P1.out.keep hb2)
  clear hb2 c0 c1 c2 c3 c4 c5 c6 c7 c8 c9
  have c0 := P2.out.at_ 0
  have c1 := P2.out.at_ 1
  have c2 := P2.out.at_ 2
  have c3 := P2.out.at_ 3
  have c4 := P2.out.at_ 4
  have c5 := P2.out.at_ 5
  have c6 := P2.out.at_ 6
  have c7 := P2.out.at_ 7
  have c8 := P2.out.at_ 8
  have c9 := P2.out.at_ 9
  simp only [List.getElem?_cons_zero, List.getElem?_cons_succ] at c0 c1 c2 c3 c4 c5 c6 c7 c8 c9
  go_wp2_with fail
  refine (HC.out _ B2.out).mono ?_
  rintro e w3 ⟨rfl, hb3⟩
  have B3 := Lib.hid (below_on B2.out hb3)
  clear hb3
  go_wp2_with fail
  go_ret
  exact ⟨rfl, B3.out⟩
/-- Natural options of literals that are valid. -/
theorem chE_nat {n : Nat} : ∀ {p : Option Int} {ls : List (Int × Bool)}, chE n p ls = 0 → ∃ q : List (Nat × Bool), lc q = ls
  | _, [], _ => ⟨[], rfl⟩
  | p, x :: ls, h => by
    rw [chE] at h
    split at h
    · cases h
    · split at h
      · cases h
      · rename_i h1 _
        obtain ⟨q, hq⟩ := chE_nat h
        refine ⟨(x.1.toNat, x.2) :: q, ?_⟩
        unfold lc at hq ⊢
        rw [List.map_cons, hq]
        congr 1
        have : ((x.1.toNat : Nat) : Int) = x.1 := by omega
        simp only
        rw [this]
theorem lowL_of {n : Nat} {ls : List (Nat × Bool)} {p : Option Int} (h : chE n p (lc ls) = 0) (hn : n ≤ 12) : LowL ls := fun l hl => Nat.lt_of_lt_of_le (chE_low h l hl) hn
set_option maxRecDepth 100000 in
set_option maxHeartbeats 4000000 in
theorem count_bad (f : Fm) (os : List ByteArray) (rs : List (ByteArray × List (Nat × Bool))) (gs : List (Nat × List (Nat × Bool))) (vs : List Ov) (ds : List Dm) (A : Option Addr) (m d : Nat) (ls : List (Int × Bool)) (w : World) (h : FamOK w f os rs gs vs ds) (hl : LitL w A ls) (hm : ls.length = m) (hm2 : m ≤ 4611686018427387904) (hbad : chE f.n none ls ≠ 0) :
    Calls Try.prog 21 #[f.v, .slice A m d] w fun e w' => e = .returned (.tuple #[.int .i64 0, .int .i64 (chE f.n none ls)]) ∧ Below w.heap.size w w' := by
  have k1 := (Below.refl w.heap.size w).alloc (Nat.le_refl _) (.cells f.cells 40)
  have P1 := Cells.new w f.cells 40
  have s1 : (w.alloc (.cells f.cells 40)).heap.size = w.heap.size + 1 := by simp
  obtain ⟨w1, hw1⟩ : ∃ u, w.alloc (.cells f.cells 40) = u := ⟨_, rfl⟩
  have hw1' : w.alloc (.cells #[.string f.nm, .slice f.PA f.pn f.pc, .slice f.IA f.iN f.ic, .slice f.DA f.dn f.dc, .slice f.KA f.kn f.kc, .slice f.QA f.qn f.qc, .slice f.OA f.n f.oc, .slice f.RA f.rn f.rc, .slice f.GA f.gn f.gc, .slice f.VA f.vn f.vc] 40) = w1 := hw1
  rw [hw1] at k1 P1 s1
  have HK := Lib.hid (checkBoth_any f os rs gs vs ds A m d ls w1 (h.keep k1) (hl.keep k1) hm hm2)
  have P1 := Lib.hid P1
  have K1 := Lib.hid k1
  obtain ⟨E, hE⟩ : ∃ E, chE f.n none ls = E := ⟨_, rfl⟩
  rw [hE] at HK hbad ⊢
  have t0 : (E != 0) = true := by simpa using hbad
  clear h hl k1 s1 hm hE hbad
  have c0 := P1.out.at_ 0
  have c1 := P1.out.at_ 1
  have c2 := P1.out.at_ 2
  have c3 := P1.out.at_ 3
  have c4 := P1.out.at_ 4
  have c5 := P1.out.at_ 5
  have c6 := P1.out.at_ 6
  have c7 := P1.out.at_ 7
  have c8 := P1.out.at_ 8
  have c9 := P1.out.at_ 9
  simp only [List.getElem?_cons_zero, List.getElem?_cons_succ] at c0 c1 c2 c3 c4 c5 c6 c7 c8 c9
  clear hw1
  go_enter Try.func21, Try.ntmps21
  go_wp2_with fail
  refine HK.out.mono ?_
  rintro e w2 ⟨rfl, hb2⟩
  have B2 := Lib.hid (below_on K1.out hb2)
  clear hb2 c0 c1 c2 c3 c4 c5 c6 c7 c8 c9
  go_wp2_with fail
  go_ret2
  exact ⟨rfl, B2.out⟩
section
attribute [local go_sem] Oper.semAt_some
set_option maxRecDepth 100000 in
set_option maxHeartbeats 4000000 in
theorem count_ok (f : Fm) (os : List ByteArray) (rs : List (ByteArray × List (Nat × Bool))) (gs : List (Nat × List (Nat × Bool))) (vs : List Ov) (ds : List Dm) (A : Option Addr) (m d : Nat) (ch : List (Nat × Bool)) (w : World) (h : FamOK w f os rs gs vs ds) (hl : LitL w A (lc ch)) (hm : ch.length = m) (hm2 : m ≤ 4611686018427387904) (hok : chE f.n none (lc ch) = 0) :
    Calls Try.prog 21 #[f.v, .slice A m d] w fun e w' => e = .returned (.tuple #[.int .i64 ((AL f.n rs ch).length : Nat), .int .i64 0]) ∧ Below w.heap.size w w' := by
  have k1 := (Below.refl w.heap.size w).alloc (Nat.le_refl _) (.cells f.cells 40)
  have P1 := Cells.new w f.cells 40
  have s1 : (w.alloc (.cells f.cells 40)).heap.size = w.heap.size + 1 := by simp
  obtain ⟨w1, hw1⟩ : ∃ u, w.alloc (.cells f.cells 40) = u := ⟨_, rfl⟩
  have hw1' : w.alloc (.cells #[.string f.nm, .slice f.PA f.pn f.pc, .slice f.IA f.iN f.ic, .slice f.DA f.dn f.dc, .slice f.KA f.kn f.kc, .slice f.QA f.qn f.qc, .slice f.OA f.n f.oc, .slice f.RA f.rn f.rc, .slice f.GA f.gn f.gc, .slice f.VA f.vn f.vc] 40) = w1 := hw1
  rw [hw1] at k1 P1 s1
  have HK := checkBoth_any f os rs gs vs ds A m d (lc ch) w1 (h.keep k1) (hl.keep k1) (by rw [lc_len, hm]) hm2
  rw [hok] at HK
  have HK := Lib.hid HK
  have P1 := Lib.hid P1
  have K1 := Lib.hid k1
  have c0 := P1.out.at_ 0
  have c1 := P1.out.at_ 1
  have c2 := P1.out.at_ 2
  have c3 := P1.out.at_ 3
  have c4 := P1.out.at_ 4
  have c5 := P1.out.at_ 5
  have c6 := P1.out.at_ 6
  have c7 := P1.out.at_ 7
  have c8 := P1.out.at_ 8
  have c9 := P1.out.at_ 9
  simp only [List.getElem?_cons_zero, List.getElem?_cons_succ] at c0 c1 c2 c3 c4 c5 c6 c7 c8 c9
  refine (callsIn_wide (n := 6)).1 ?_
  refine callsIn_of_wp_marks Try.func21 rfl trivial ?_ rfl
  simp only [Try.ntmps21, List.size_toArray, List.length_cons, List.length_nil, Nat.reduceAdd, Nat.reduceSub, Array.replicate_succ, Array.replicate_zero, List.push_toArray, List.append_toArray, List.nil_append, List.cons_append]
  clear hw1
  gi_wp2_with (first
    | (refine ⟨trivial, ?_⟩; gi_at_call 44; refine (callsIn_wide.2 HK.out).mono ?_; rintro e w2 ⟨rfl, hb2⟩; clear c0 c1 c2 c3 c4 c5 c6 c7 c8 c9 hw1'; have K2 := below_on K1.out hb2; have P2 := P1.out.keep hb2; have C2 := Cells.new w2 #[.int .i64 0] 3; have s2 : (w2.alloc (.cells #[.int .i64 0] 3)).heap.size = w2.heap.size + 1 := (by simp); have kx := (Below.refl w2.heap.size w2).alloc (Nat.le_refl _) (.cells #[.int .i64 0] 3); have P3 := P2.keep kx; have K3 := below_on K2 kx; have c0 := P3.at_ 0; have c1 := P3.at_ 1; have c2 := P3.at_ 2; have c3 := P3.at_ 3; have c4 := P3.at_ 4; have c5 := P3.at_ 5; have c6 := P3.at_ 6; have c7 := P3.at_ 7; have c8 := P3.at_ 8; have c9 := P3.at_ 9; simp only [List.getElem?_cons_zero, List.getElem?_cons_succ] at c0 c1 c2 c3 c4 c5 c6 c7 c8 c9)
    | (refine ⟨trivial, ?_⟩; gi_at_call 45; refine (callsIn_wide.2 (allowed_any f A m d _)).mono ?_; rintro e w' ⟨rfl, rfl⟩))
  have hs2 : w.heap.size < w2.heap.size := by have := K1.out.size; have := hb2.size; omega
  have C3 := C2
  have K3' := K3
  obtain ⟨w3, hw3⟩ : ∃ u, w2.alloc (.cells #[.int .i64 0] 3) = u := ⟨_, rfl⟩
  rw [hw3] at C3 K3' s2 ⊢
  obtain ⟨q, hq⟩ : ∃ q, w2.heap.size = q := ⟨_, rfl⟩
  rw [hq] at C3 s2 hs2 ⊢
  have k4 := K3'.alloc (by omega) (.cells f.cells 40)
  have hF := heap_new w3 (.cells f.cells 40)
  have s3 : (w3.alloc (.cells f.cells 40)).heap.size = q + 1 + 1 := by simp [s2]
  have C4 := C3.keep ((Below.refl w3.heap.size w3).alloc (Nat.le_refl _) (.cells f.cells 40))
  rw [s2] at hF
  obtain ⟨w4, hw4⟩ : ∃ u, w3.alloc (.cells f.cells 40) = u := ⟨_, rfl⟩
  rw [hw4] at k4 C4 s3 hF ⊢
  have k5 := k4.alloc (by omega) (.cells #[.slice A m d] 55)
  have hC := heap_new w4 (.cells #[.slice A m d] 55)
  have hF := heap_old (o := .cells #[.slice A m d] 55) hF
  have s4 : (w4.alloc (.cells #[.slice A m d] 55)).heap.size = q + 1 + 1 + 1 := by simp [s3]
  have C5 := C4.keep ((Below.refl w4.heap.size w4).alloc (Nat.le_refl _) (.cells #[.slice A m d] 55))
  rw [s3] at hC
  obtain ⟨w5, hw5⟩ : ∃ u, w4.alloc (.cells #[.slice A m d] 55) = u := ⟨_, rfl⟩
  rw [hw5] at k5 C5 s4 hC hF ⊢
  clear hw3 hw4 hw5 K3 K3' C2 C3 C4 P2 P3 c0 c1 c2 c3 c4 c5 c6 c7 c8 c9 kx
  have hle := Nat.le_of_lt hs2
  refine wpIn_rangeFunc_ownF rfl (by omega) (gf := 69) (lb := #[.pointer (some ⟨q + 1, 0, none⟩), .pointer (some ⟨q + 1 + 1, 0, none⟩)]) rfl trivial (enters_of Try.func69 (by kernel_rfl) rfl)
    (allowed_stops w w5 f A m d rs ch (fun k => k = q) (q + 1) (q + 1 + 1) _ _ k5 h.n12 hl hm (lowL_of hok h.n12) hm2 h.rsL h.rsl h.low (by have := h.r48; omega) hF hC (fun k h => by subst h; omega) _) kpV_t (kpV_b (by omega)) (Below.refl _ _) (fun _ => rfl)
    (fun pre W => (W.cell? ⟨q, 0, none⟩ = some (.int .i64 (pre.length : Nat)) ∧ W.frozen? ⟨q, 0, none⟩ = false) ∧ Below w.heap.size w W)
    (fun _ _ _ => False)
    (OwnFrom.and (Own.from (fun s A B row hs hg hr => ⟨cell_kept hs.1 hg hr, (frozen_kept hs.1 hg hr).trans hs.2⟩) _) (ownFrom_below (Nat.le_refl _) (by omega)))
    (fun _ _ _ _ _ hs _ _ => hs)
    ⟨⟨C5.at_ 0, C5.fz 0⟩, k5⟩
    (fun x : Cf => { tmps := #[f.v, .slice A m d, .pointer (some ⟨w.heap.size, 0, none⟩), undef, .int .i64 0, .int .i64 0, .int .i64 0, .pointer (some ⟨q, 0, none⟩), f.v, .slice A m d, .int .i64 0, .int .i64 0, .bool false, undef, f.v, .slice A m d, .func (.func 69) #[] #[.pointer (some ⟨q + 1, 0, none⟩), .pointer (some ⟨q + 1 + 1, 0, none⟩)], .int .u64 (x.1 : Nat), undef, undef, undef], defers := [] }) ?assign ?body ?done ?stop
  case assign =>
    intro l x W K hK
    gi_wp2
    first | exact hK | (simp; exact hK) | simpa using hK
  case body =>
    rintro l pre x W ⟨⟨hc, hf⟩, hB⟩ hlen
    have h12 : 2 ^ f.n ≤ 2 ^ 12 := Nat.pow_le_pow_right (by decide) h.n12
    have ew : IntKind.i64.wrap (((pre.length : Nat) : Int) + 1) = ((pre.length : Nat) : Int) + 1 := IntWalk.i64_in _ (by omega)
    gi_wp2
    exact ⟨KeepsOthers.setCell _ _ _, kpV_set W q 0 _ hle rfl, ⟨by rw [List.length_append]; exact World.cell?_setCell_same' _ _ _ (by rw [hc]; rfl), by rw [World.frozen?_setCell]; exact hf⟩, hB.setCell (p := ⟨q, 0, none⟩) hle _⟩
  case done =>
    rintro D ys W hD hys ⟨⟨hcr, hfr⟩, hB⟩ hK
    rw [hys, List.length_map] at hcr
    gi_wp2
    refine ⟨by simp, .inl ⟨_, _, rfl, run_takeDeferred hK, ?_⟩⟩
    refine ⟨.tuple #[.int .i64 ((AL f.n rs ch).length : Nat), .int .i64 0], ?_, rfl, hB.trans (belowK_b (w := w) (Nat.le_refl _) _ D _ _ (by omega) hK rfl rfl)⟩
    simp [results, Try.f21, go_sem]
  case stop =>
    rintro D c pre W _ _ hx
    exact hx.elim
end
end Go.Proofs.Ytmfmpkihmadjmaa
