/- A conflict of a choice: the rules that cannot be left out. -/
import Derived.Test.YtmfmpkihmadjmaaVt
import Derived.Test.YtmfmpkihmadjmaaVn
namespace Go.Proofs.Ytmfmpkihmadjmaa
open Go.RowKit Go.Shelf
/-- The rules that remain behind i rounds: their numbers, and themselves. -/
def cfL (n : Nat) (rs : List (ByteArray × List (Nat × Bool))) (ch : List (Nat × Bool)) : Nat → List Nat × List (ByteArray × List (Nat × Bool))
  | 0 => ([], [])
  | i + 1 => match rs[i]? with
    | none => cfL n rs ch i
    | some r => if (AL n ((cfL n rs ch i).2 ++ rs.drop (i + 1)) ch).isEmpty then cfL n rs ch i else ((cfL n rs ch i).1 ++ [i], (cfL n rs ch i).2 ++ [r])
theorem cfL_out {n : Nat} {rs : List (ByteArray × List (Nat × Bool))} {ch : List (Nat × Bool)} {i : Nat} {r : ByteArray × List (Nat × Bool)} (hr : rs[i]? = some r) (h : (AL n ((cfL n rs ch i).2 ++ rs.drop (i + 1)) ch).isEmpty = true) : cfL n rs ch (i + 1) = cfL n rs ch i := by
  rw [cfL, hr]
  simp only [h, if_true]
theorem cfL_in {n : Nat} {rs : List (ByteArray × List (Nat × Bool))} {ch : List (Nat × Bool)} {i : Nat} {r : ByteArray × List (Nat × Bool)} (hr : rs[i]? = some r) (h : (AL n ((cfL n rs ch i).2 ++ rs.drop (i + 1)) ch).isEmpty = false) : cfL n rs ch (i + 1) = ((cfL n rs ch i).1 ++ [i], (cfL n rs ch i).2 ++ [r]) := by
  rw [cfL, hr]
  simp only [h, Bool.false_eq_true, if_false]
theorem cfL_len (n : Nat) (rs : List (ByteArray × List (Nat × Bool))) (ch : List (Nat × Bool)) : ∀ i, (cfL n rs ch i).1.length = (cfL n rs ch i).2.length ∧ (cfL n rs ch i).2.length ≤ i
  | 0 => ⟨rfl, Nat.le_refl _⟩
  | i + 1 => by
    have ih := cfL_len n rs ch i
    rw [cfL]
    split
    · exact ⟨ih.1, by omega⟩
    · split
      · exact ⟨ih.1, by omega⟩
      · exact ⟨by simp [ih.1], by simp; omega⟩
/-- Numbers as cells. -/
def natsV (l : List Nat) : List Value := l.map fun k => .int .i64 (k : Nat)
theorem natsV_snoc (l : List Nat) (k : Nat) : natsV (l ++ [k]) = natsV l ++ [.int .i64 (k : Nat)] := by unfold natsV; rw [List.map_append]; rfl
/-- What lies in the family that is left: the options, and the rules v. -/
def leftC (f : Fm) (v : Value) : List Value := [.string { data := #[] }, .slice none 0 0, .slice none 0 0, .slice none 0 0, .slice none 0 0, .slice none 0 0, .slice f.OA f.n f.oc, v, .slice none 0 0, .slice none 0 0]
def leftF (f : Fm) (R : Option Addr) (rn rc : Nat) : Fm := ⟨{ data := #[] }, none, none, none, none, none, f.OA, R, none, none, 0, 0, 0, 0, 0, 0, 0, 0, 0, 0, f.n, f.oc, rn, rc, 0, 0, 0, 0⟩
/-- The family that is left, as it is made. -/
def ConfA (w : World) (f : Fm) (qs : List Rq) (s : Value) (wx : World) : Prop := ∃ L A c, s = .pointer (some ⟨L, 0, none⟩) ∧ w.heap.size ≤ L ∧ Cells wx L (leftC f (.slice A f.rn c)) ∧ wx.ownsRow w.heap.size 76 2 (.slice A f.rn c) f.rn (rflat qs) ∧ (∀ b o x, A = some ⟨b, o, x⟩ → b ≠ L) ∧ Below w.heap.size w wx
theorem own_keep {w w' : World} {B : Nat} {e : TypeId} {sz : Nat} {v : Value} {n : Nat} {xs : List Value} (h : w.ownsRow B e sz v n xs) (hb : Below w.heap.size w w') : w'.ownsRow B e sz v n xs := by
  refine ⟨h.1, ?_⟩
  rcases h.2 with h0 | ⟨g, cap, cur, hv, hg, hh, hr⟩
  · exact .inl h0
  · have hlt : g < w.heap.size := by
      rcases Nat.lt_or_ge g w.heap.size with h1 | h1
      · exact h1
      · rw [Array.getElem?_eq_none h1] at hh; cases hh
    exact .inr ⟨g, cap, cur, hv, hg, (hb.block g hlt).trans hh, hr⟩
theorem own_grown {w w' : World} {B : Nat} {e : TypeId} {sz : Nat} {v : Value} {n : Nat} {xs : List Value} (h : w.ownsRow B e sz v n xs) {k : Nat} (hb : w.grownBy w' (some k)) (hk : v.ownBlock ≠ some k) : w'.ownsRow B e sz v n xs := by
  refine ⟨h.1, ?_⟩
  rcases h.2 with h0 | ⟨g, cap, cur, hv, hg, hh, hr⟩
  · exact .inl h0
  · have hlt : g < w.heap.size := by
      rcases Nat.lt_or_ge g w.heap.size with h1 | h1
      · exact h1
      · rw [Array.getElem?_eq_none h1] at hh; cases hh
    exact .inr ⟨g, cap, cur, hv, hg, (hb.block g hlt (fun e => hk (by rw [hv]; exact e))).trans hh, hr⟩
theorem own_at {w : World} {B : Nat} {e : TypeId} {sz : Nat} {A : Option Addr} {c n : Nat} {xs : List Value} (h : w.ownsRow B e sz (.slice A n c) n xs) {b o : Nat} {x : _} (hA : A = some ⟨b, o, x⟩) : B ≤ b ∧ b < w.heap.size := by
  rcases h.2 with ⟨h0, _⟩ | ⟨g, cap, cur, hv, hg, hh, hr⟩
  · injection h0 with h1
    rw [h1] at hA; cases hA
  · injection hv with h1
    rw [hA] at h1
    injection h1 with h1
    injection h1 with h1
    subst h1
    refine ⟨hg, ?_⟩
    rcases Nat.lt_or_ge b w.heap.size with h1 | h1
    · exact h1
    · rw [Array.getElem?_eq_none h1] at hh; cases hh
theorem RuleL.of_own {w : World} {B n c : Nat} {T : TypeId} {A : Option Addr} {qs : List Rq} (h : w.ownsRow B T 2 (.slice A n c) n (rflat qs)) (hq : LitQ w qs) : RuleL w A (qs.map (·.1)) := by
  obtain ⟨A', c', hv, _, _, _, hx⟩ := own_row h
  injection hv with hv
  subst hv
  intro k r hr
  rw [List.getElem?_map] at hr
  obtain ⟨q, hk, rfl⟩ := Option.map_eq_some_iff.1 hr
  obtain ⟨a1, a2⟩ := rflat_at qs k q hk
  obtain ⟨g, e1, e2, e3, e4⟩ := hx _ _ a1
  obtain ⟨g', e1', _, _, e4'⟩ := hx _ _ a2
  rw [e1] at e1'
  injection e1' with e1'
  injection e1' with e1'
  subst e1'
  exact ⟨g, 0, q.2.1, q.2.2, e1, e3, by rw [Nat.zero_add]; exact e4, by rw [Nat.zero_add]; exact e4', hq q (List.mem_of_getElem? hk)⟩
theorem leftC_set (f : Fm) (u v : Value) : (leftC f u).set 7 v = leftC f v := rfl
/-- The worlds of a round: the family that is left, its rules' block, the set. -/
structure CSt (w : World) (f : Fm) (L B0 g : Nat) (us : List Value) (rv v : Value) (S : List Nat) (x : World) : Prop where
  cl : Cells x L (leftC f rv)
  cg : Cells x g us
  ow : x.ownsRow B0 3 1 v S.length (natsV S)
  bl : Below w.heap.size w x
  k1 : w.heap.size ≤ L
  k2 : w.heap.size ≤ g
  k3 : L < B0
  k4 : g < B0
  k5 : g ≠ L
  k6 : B0 ≤ x.heap.size
theorem CSt.low {w : World} {f : Fm} {L B0 g : Nat} {us : List Value} {rv v : Value} {S : List Nat} {x y : World} (h : CSt w f L B0 g us rv v S x) (hb : Below x.heap.size x y) : CSt w f L B0 g us rv v S y :=
  ⟨h.cl.keep hb, h.cg.keep hb, own_keep h.ow hb, below_on h.bl hb, h.k1, h.k2, h.k3, h.k4, h.k5, Nat.le_trans h.k6 hb.size⟩
theorem CSt.grow {w : World} {f : Fm} {L B0 g : Nat} {us us' : List Value} {rv v : Value} {S : List Nat} {x y : World} (h : CSt w f L B0 g us rv v S x) (hb : x.grownBy y (some g)) (hc : Cells y g us') : CSt w f L B0 g us' rv v S y :=
  ⟨h.cl.grown hb (fun e => h.k5 e.symm), hc, own_grown h.ow hb (fun e => by have := own_ge h.ow e; have := h.k4; omega), h.bl.grown hb (Nat.le_trans h.k2 (Nat.le_trans (Nat.le_of_lt h.k4) h.k6)) (fun k e => by injection e with e; subst e; exact h.k2), h.k1, h.k2, h.k3, h.k4, h.k5, Nat.le_trans h.k6 hb.size⟩
theorem CSt.store {w : World} {f : Fm} {L B0 g : Nat} {us : List Value} {rv v : Value} {S : List Nat} {x : World} (h : CSt w f L B0 g us rv v S x) (rv' : Value) : CSt w f L B0 g us rv' v S (x.setCell ⟨L, 7, none⟩ rv') := by
  have hb : x.grownBy (x.setCell ⟨L, 7, none⟩ rv') (some L) := grown_cells L [rv'] 7 x
  exact ⟨h.cl.set 7 rv' (by show 7 < 10; decide), h.cg.grown hb h.k5, own_grown h.ow hb (fun e => by have := own_ge h.ow e; have := h.k3; omega), h.bl.setCell h.k1 _, h.k1, h.k2, h.k3, h.k4, h.k5, Nat.le_trans h.k6 hb.size⟩
theorem cell_of_take {w : World} {g N : Nat} {us xs : List Value} (h : Cells w g us) (hx : us.take N = xs) {i : Nat} {u : Value} (hi : xs[i]? = some u) : w.cell? ⟨g, i, none⟩ = some u := by
  rw [h.at_]
  rw [← hx] at hi
  rcases Nat.lt_or_ge i N with h1 | h1
  · rwa [List.getElem?_take_of_lt h1] at hi
  · rw [List.getElem?_take_eq_none h1] at hi; cases hi
theorem info_intV : (Try.prog.info? 3).map (fun i => (i.zero, i.size, i.bytes)) = some (some (.int .i64 0), 1, 8) := by kernel_rfl
theorem CSt.push {w : World} {f : Fm} {L B0 g : Nat} {us : List Value} {rv v v' : Value} {S S' : List Nat} {x y : World} {o : Obj} (h : CSt w f L B0 g us rv v S x) (hg : (x.alloc o).grownBy y v.ownBlock) (ho : y.ownsRow B0 3 1 v' S'.length (natsV S')) : CSt w f L B0 g us rv v' S' y := by
  have h' := h.low ((Below.refl x.heap.size x).alloc (Nat.le_refl _) o)
  have q : ∀ p, p < B0 → v.ownBlock ≠ some p := fun p hp e => by have := own_ge h.ow e; omega
  have cg : ∀ p vs, p < B0 → Cells (x.alloc o) p vs → Cells y p vs := fun p vs hp hc => by
    have e : y.heap[p]? = (x.alloc o).heap[p]? := hg.block p hc.lt (fun e => q p hp e.symm)
    exact ⟨fun i => (World.cell?_of_block (a := ⟨p, i, none⟩) e).trans (hc.at_ i), fun i => (World.frozen?_of_block (a := ⟨p, i, none⟩) e).trans (hc.fz i), Nat.lt_of_lt_of_le hc.lt hg.size⟩
  exact ⟨cg L _ h.k3 h'.cl, cg g _ h.k4 h'.cg, ho, h'.bl.grown hg (Nat.le_trans h.k1 (Nat.le_trans (Nat.le_of_lt h.k3) h'.k6)) (fun k e => by have := own_ge h.ow e; have := h.k1; have := h.k3; omega), h.k1, h.k2, h.k3, h.k4, h.k5, Nat.le_trans h'.k6 hg.size⟩
theorem del_flat {us : List Value} {M a : Nat} {K D : List Rq} {q : Rq} (h : us.take (M * 2) = rflat (K ++ q :: D)) (ha : K.length = a) (hM : a + 1 ≤ M) : us.take (a * 2) ++ (us.take (M * 2)).drop ((a + 1) * 2) = rflat (K ++ D) := by
  have e1 : us.take (a * 2) = rflat K := by
    have := congrArg (List.take (a * 2)) h
    rw [List.take_take, Nat.min_eq_left (by omega), rflat_take, List.take_append_of_le_length (by omega)] at this
    rw [this, List.take_of_length_le (l := K) (by omega)]
  rw [e1, h, rflat_drop, List.drop_append, List.drop_of_length_le (by omega), List.nil_append, show a + 1 - K.length = 1 by omega, rflat_app]
  rfl
theorem ins_flat {us : List Value} {N a : Nat} {K D : List Rq} {q : Rq} (h : us.take (N * 2) = rflat (K ++ D)) (ha : K.length = a) (hN : a ≤ N) : us.take (a * 2) ++ [.string q.1.1, .slice q.2.1 q.1.2.length q.2.2] ++ (us.take (N * 2)).drop (a * 2) = rflat ((K ++ [q]) ++ D) := by
  have e1 : us.take (a * 2) = rflat K := by
    have := congrArg (List.take (a * 2)) h
    rw [List.take_take, Nat.min_eq_left (by omega), rflat_take, List.take_append_of_le_length (by omega)] at this
    rw [this, List.take_of_length_le (l := K) (by omega)]
  rw [e1, h, rflat_drop, ← ha, List.drop_left, rflat_app, rflat_app]
  rfl
theorem end_flat {us : List Value} {N _a : Nat} {K D : List Rq} {q : Rq} (h : us.take (N * 2) = rflat (K ++ D)) (hD : D = []) : us.take (N * 2) ++ [.string q.1.1, .slice q.2.1 q.1.2.length q.2.2] = rflat ((K ++ [q]) ++ D) := by
  subst hD
  rw [h, List.append_nil, List.append_nil, rflat_app]
  rfl
/-- Insert, whether at the end or before it. -/
theorem insert_rule (g cap N a vb : Nat) (us : List Value) (K D : List Rq) (q : Rq) (w : World) (h : Cells w g us) (hul : us.length = cap * 2) (hn : N + 1 ≤ cap) (hcap : cap ≤ 9223372036854775807) (hn2 : N ≤ 1000000) (hv : Cells w vb [.string q.1.1, .slice q.2.1 q.1.2.length q.2.2]) (hvg : vb ≠ g) (htk : us.take (N * 2) = rflat (K ++ D)) (hKa : K.length = a) (hN : a + D.length = N) :
    Calls Try.prog 52 #[.slice (some ⟨g, 0, none⟩) N cap, .int .i64 (a : Nat), .slice (some ⟨vb, 0, none⟩) 1 1] w fun e w' => e = .returned (.slice (some ⟨g, 0, none⟩) (N + 1) cap) ∧
      (∃ us', us'.length = us.length ∧ us'.take ((N + 1) * 2) = rflat ((K ++ [q]) ++ D) ∧ Cells w' g us') ∧ w.grownBy w' (some g) := by
  have h2 : ∀ v ∈ [Value.string q.1.1, .slice q.2.1 q.1.2.length q.2.2], v.oneCell' = true := fun v hv => by
    simp at hv
    rcases hv with rfl | rfl <;> rfl
  by_cases he : a = N
  · subst he
    have hD : D = [] := List.eq_nil_of_length_eq_zero (by omega)
    refine (insert_end g cap a vb us _ w h hul hn hcap hn2 hv rfl h2).mono ?_
    rintro e w' ⟨rfl, ⟨us', e1, e3, e4⟩, e5⟩
    exact ⟨rfl, ⟨us', e1, e3.trans (end_flat (_a := a) htk hD), e4⟩, e5⟩
  · refine (insert_mid g cap N a vb us _ w h hul hn (by omega) hcap hn2 hv rfl hvg (by rw [htk]; exact rflat_one _) h2).mono ?_
    rintro e w' ⟨rfl, ⟨us', e1, e3, e4⟩, e5⟩
    exact ⟨rfl, ⟨us', e1, e3.trans (ins_flat htk hKa (by omega)), e4⟩, e5⟩
/-- What a round finds: the rules that were kept, and those to come. -/
def ConfR (w : World) (f : Fm) (qs : List Rq) (L B0 : Nat) (j : Nat) (S : List Nat) (ks : List (ByteArray × List (Nat × Bool))) (v : Value) (x : World) : Prop :=
  ∃ g cap us K, CSt w f L B0 g us (.slice (some ⟨g, 0, none⟩) (K.length + (f.rn - j)) cap) v S x ∧ us.length = cap * 2 ∧ cap ≤ 9223372036854775807 ∧ K.length + (f.rn - j) ≤ cap ∧ us.take ((K.length + (f.rn - j)) * 2) = rflat (K ++ qs.drop j) ∧ K.map (·.1) = ks ∧ (∀ q ∈ K, q ∈ qs) ∧ S.length = K.length ∧ K.length ≤ j
set_option maxRecDepth 100000 in
set_option maxHeartbeats 8000000 in
theorem conflict_ok (f : Fm) (os : List ByteArray) (rs : List (ByteArray × List (Nat × Bool))) (gs : List (Nat × List (Nat × Bool))) (vs : List Ov) (ds : List Dm) (A : Option Addr) (m d : Nat) (ch : List (Nat × Bool)) (w : World) (h : FamOK w f os rs gs vs ds) (hl : LitL w A (lc ch)) (hm : ch.length = m) (hm2 : m ≤ 4611686018427387904) (hok : chE f.n none (lc ch) = 0) :
    Calls Try.prog 28 #[f.v, .slice A m d] w fun e w' => ((AL f.n rs ch ≠ [] ∧ e = .returned (.tuple #[.slice none 0 0, .bool false, .int .i64 0])) ∨ (AL f.n rs ch = [] ∧ ∃ v, e = .returned (.tuple #[v, .bool true, .int .i64 0]) ∧ w'.ownsRow w.heap.size 3 1 v (cfL f.n rs ch f.rn).1.length (natsV (cfL f.n rs ch f.rn).1))) ∧ Below w.heap.size w w' := by
  have k1 := (Below.refl w.heap.size w).alloc (Nat.le_refl _) (.cells f.cells 40)
  have P1 := Cells.new w f.cells 40
  have s1 : (w.alloc (.cells f.cells 40)).heap.size = w.heap.size + 1 := by simp
  obtain ⟨w1, hw1⟩ : ∃ u, w.alloc (.cells f.cells 40) = u := ⟨_, rfl⟩
  have hw1' : w.alloc (.cells #[.string f.nm, .slice f.PA f.pn f.pc, .slice f.IA f.iN f.ic, .slice f.DA f.dn f.dc, .slice f.KA f.kn f.kc, .slice f.QA f.qn f.qc, .slice f.OA f.n f.oc, .slice f.RA f.rn f.rc, .slice f.GA f.gn f.gc, .slice f.VA f.vn f.vc] 40) = w1 := hw1
  rw [hw1] at k1 P1 s1
  have HK := checkBoth_any f os rs gs vs ds A m d (lc ch) w1 (h.keep k1) (hl.keep k1) (by rw [lc_len, hm]) hm2
  rw [hok] at HK
  obtain ⟨qs, hqs, hql, hqc⟩ := h.rsL.recs
  have hqlen : qs.length = f.rn := by rw [← h.rsl, ← hqs, List.length_map]
  have h48 := h.r48
  have HC := Lib.hid (fun w' (hb : Below w.heap.size w w') => clone_rules f.RA f.rn f.rc qs w' (fun j u hu => by
    obtain ⟨b, o, e1, e2, e3⟩ := hqc j u hu
    exact ⟨b, o, e1, Nat.lt_of_lt_of_le e2 hb.size, (hb.cell (p := ⟨b, o + j, none⟩) e2).trans e3⟩) hqlen (by omega))
  have HK := Lib.hid HK
  have P1 := Lib.hid P1
  have K1 := Lib.hid k1
  have H := Lib.hid h
  have HL0 := Lib.hid hl
  have Hqs := Lib.hid hqs
  have Hql := Lib.hid hql
  have c0 := P1.out.at_ 0
  have c1 := P1.out.at_ 1
  have c2 := P1.out.at_ 2
  have c3 := P1.out.at_ 3
  have c4 := P1.out.at_ 4
  have c5 := P1.out.at_ 5
  have c6 := P1.out.at_ 6
  have c7 := P1.out.at_ 7
  have c8 := P1.out.at_ 8
  have c9 := P1.out.at_ 9
  simp only [List.getElem?_cons_zero, List.getElem?_cons_succ] at c0 c1 c2 c3 c4 c5 c6 c7 c8 c9
  have hok' := Lib.hid hok
  clear hw1 k1 s1 h hl hqs hql hqc hok
  go_enter Try.func28, Try.ntmps28
  go_wp2_with fail
  refine HK.out.mono ?_
  rintro e w2 ⟨rfl, hb2⟩
  have B2 := Lib.hid (below_on K1.out hb2)
  have P2 := Lib.hid (P1.out.keep hb2)
  clear hb2 c0 c1 c2 c3 c4 c5 c6 c7 c8 c9
  go_upto_region 4 with fail
  have HC := Lib.hid (fun w' (hb : Below w2.heap.size w2 w') => HC.out w' (below_on B2.out hb))
  go_cut [8] (fun s wx => ConfA w2 f qs s wx)
  case first =>
    have HS := Lib.hid (fun w' (hb : Below w2.heap.size w2 w') => (⟨(P2.out.keep hb).at_ 6, (P2.out.keep hb).at_ 7⟩ : w'.cell? ⟨w.heap.size, 6, none⟩ = some (.slice f.OA f.n f.oc) ∧ w'.cell? ⟨w.heap.size, 7, none⟩ = some (.slice f.RA f.rn f.rc)))
    refine Till.begin 7 (fun w' => w'.cell? ⟨w.heap.size, 6, none⟩ = some (.slice f.OA f.n f.oc) ∧ w'.cell? ⟨w.heap.size, 7, none⟩ = some (.slice f.RA f.rn f.rc)) (by kernel_rfl) (HS.out _ (Below.refl _ _).drew) (fun hH => ?_)
    clear hH
    have HB0 := Lib.hid (Below.refl w2.heap.size w2).drew
    generalize w2.drew = V0 at HB0 ⊢
    try simp only [List.setIfInBounds_toArray, List.set_cons_zero, List.set_cons_succ]
    refine Till.tL 0 [1, 5, 7] 17 (.pointer (some ⟨w.heap.size, 6, none⟩)) (HS.out _ HB0.out) ?_
    try simp only [Act.put, List.setIfInBounds_toArray, List.set_cons_zero, List.set_cons_succ]
    refine Till.tL 1 [5, 7] 18 (.slice f.OA f.n f.oc) (HS.out _ HB0.out) ?_
    try simp only [Act.put, List.setIfInBounds_toArray, List.set_cons_zero, List.set_cons_succ]
    refine Till.tL 2 [3, 4, 5, 7] 19 (.pointer (some ⟨w.heap.size, 7, none⟩)) (HS.out _ HB0.out) ?_
    try simp only [Act.put, List.setIfInBounds_toArray, List.set_cons_zero, List.set_cons_succ]
    refine Till.tL 3 [4, 5, 7] 20 (.slice f.RA f.rn f.rc) (HS.out _ HB0.out) ?_
    try simp only [Act.put, List.setIfInBounds_toArray, List.set_cons_zero, List.set_cons_succ]
    refine Till.two (i := 4) (j := 6) (by kernel_rfl) rfl rfl ?_ ?_
    · intro K hK
      go_simp
      refine (HC.out V0 HB0.out).mono ?_
      rintro e V1 ⟨v, rfl, hown, hbv⟩
      obtain ⟨VA, VC, rfl, _⟩ := own_row hown
      have HB1 := Lib.hid (below_on HB0.out hbv)
      have Ov := Lib.hid hown
      have Hbv := Lib.hid hbv
      refine hK.out _ _ (fun _ => HS.out _ HB1.out) ?_
      clear hK K hown hbv
      try simp only [List.setIfInBounds_toArray, List.set_cons_zero, List.set_cons_succ]
      refine Till.tk 5 7 22 (.agg #[.string { data := #[] }, .slice none 0 0, .slice none 0 0, .slice none 0 0, .slice none 0 0, .slice none 0 0, .slice f.OA f.n f.oc, .slice VA f.rn VC, .slice none 0 0, .slice none 0 0]) (HS.out _ HB1.out) ?_
      try simp only [Act.put, List.setIfInBounds_toArray, List.set_cons_zero, List.set_cons_succ]
      refine Till.one (i := 6) (by kernel_rfl) rfl (fun K hK => ?_)
      go_simp
      have kx := (Below.refl V1.heap.size V1).alloc (Nat.le_refl _) (.cells #[.string { data := #[] }, .slice none 0 0, .slice none 0 0, .slice none 0 0, .slice none 0 0, .slice none 0 0, .slice none 0 0, .slice none 0 0, .slice none 0 0, .slice none 0 0] 40)
      have PL := Cells.new V1 #[.string { data := #[] }, .slice none 0 0, .slice none 0 0, .slice none 0 0, .slice none 0 0, .slice none 0 0, .slice none 0 0, .slice none 0 0, .slice none 0 0, .slice none 0 0] 40
      obtain ⟨L, hL⟩ : ∃ L, V1.heap.size = L := ⟨_, rfl⟩
      have HL := Lib.hid (show w2.heap.size ≤ L by rw [← hL]; exact HB1.out.size)
      have HLe := Lib.hid (show L = V1.heap.size from hL.symm)
      have HB2 := Lib.hid (below_on HB1.out kx)
      obtain ⟨V2, hV⟩ : ∃ u, V1.alloc (.cells #[.string { data := #[] }, .slice none 0 0, .slice none 0 0, .slice none 0 0, .slice none 0 0, .slice none 0 0, .slice none 0 0, .slice none 0 0, .slice none 0 0, .slice none 0 0] 40) = u := ⟨_, rfl⟩
      have HKx := Lib.hid kx
      rw [hV] at HB2 PL HKx ⊢
      have HLs := Lib.hid (show L < V2.heap.size by rw [← hL]; exact PL.lt)
      rw [hL] at PL ⊢
      have PL := Lib.hid PL
      refine hK.out _ _ (fun _ => HS.out _ HB2.out) ?_
      clear hK K kx hL hV
      try simp only [List.setIfInBounds_toArray, List.set_cons_zero, List.set_cons_succ]
      have z0 := PL.out.at_ 0
      have y0 := PL.out.fz 0
      have z1 := PL.out.at_ 1
      have y1 := PL.out.fz 1
      have z2 := PL.out.at_ 2
      have y2 := PL.out.fz 2
      have z3 := PL.out.at_ 3
      have y3 := PL.out.fz 3
      have z4 := PL.out.at_ 4
      have y4 := PL.out.fz 4
      have z5 := PL.out.at_ 5
      have y5 := PL.out.fz 5
      have z6 := PL.out.at_ 6
      have y6 := PL.out.fz 6
      have z7 := PL.out.at_ 7
      have y7 := PL.out.fz 7
      have z8 := PL.out.at_ 8
      have y8 := PL.out.fz 8
      have z9 := PL.out.at_ 9
      have y9 := PL.out.fz 9
      simp only [List.getElem?_cons_zero, List.getElem?_cons_succ] at z0 z1 z2 z3 z4 z5 z6 z7 z8 z9
      refine Till.one (i := 7) (by kernel_rfl) rfl (fun K hK => ?_)
      go_simp
      refine hK.out _ _ (fun h => absurd h (by simp)) ?_
      clear hK K
      try simp only [List.setIfInBounds_toArray, List.set_cons_zero, List.set_cons_succ]
      refine Till.done (by kernel_rfl) ?_ _
      go_wp2_with fail
      go_meet
      have CL := Cells.wrote PL.out 0 (leftC f (.slice VA f.rn VC)) (Nat.le_refl _)
      have hgr := grown_cells L (leftC f (.slice VA f.rn VC)) 0 V2
      have hnel : ∀ b o x, VA = some ⟨b, o, x⟩ → b ≠ L := fun b o x e => by have := own_at Ov.out e; have := HLe.out; omega
      exact ⟨L, VA, VC, rfl, HL.out, CL, own_grown (own_keep (own_down Ov.out HB0.out.size) HKx.out) hgr (fun e => by
        cases VA with
        | none => cases e
        | some a => obtain ⟨b, o, x⟩ := a; injection e with e; exact hnel b o x rfl e), hnel, HB2.out.grown hgr HB2.out.size (fun k e => by injection e with e; subst e; exact HL.out)⟩
    · intro K hK
      go_simp
      have kx := (Below.refl V0.heap.size V0).alloc (Nat.le_refl _) (.cells #[.string { data := #[] }, .slice none 0 0, .slice none 0 0, .slice none 0 0, .slice none 0 0, .slice none 0 0, .slice none 0 0, .slice none 0 0, .slice none 0 0, .slice none 0 0] 40)
      have PL := Cells.new V0 #[.string { data := #[] }, .slice none 0 0, .slice none 0 0, .slice none 0 0, .slice none 0 0, .slice none 0 0, .slice none 0 0, .slice none 0 0, .slice none 0 0, .slice none 0 0] 40
      obtain ⟨L, hL⟩ : ∃ L, V0.heap.size = L := ⟨_, rfl⟩
      have HL := Lib.hid (show w2.heap.size ≤ L by rw [← hL]; exact HB0.out.size)
      have HLe := Lib.hid (show L = V0.heap.size from hL.symm)
      have HB1 := Lib.hid (below_on HB0.out kx)
      obtain ⟨V1, hV⟩ : ∃ u, V0.alloc (.cells #[.string { data := #[] }, .slice none 0 0, .slice none 0 0, .slice none 0 0, .slice none 0 0, .slice none 0 0, .slice none 0 0, .slice none 0 0, .slice none 0 0, .slice none 0 0] 40) = u := ⟨_, rfl⟩
      have HKx := Lib.hid kx
      rw [hV] at HB1 PL HKx ⊢
      have HLs := Lib.hid (show L < V1.heap.size by rw [← hL]; exact PL.lt)
      rw [hL] at PL ⊢
      have PL := Lib.hid PL
      refine hK.out _ _ (fun _ => HS.out _ HB1.out) ?_
      clear hK K kx hL hV
      try simp only [List.setIfInBounds_toArray, List.set_cons_zero, List.set_cons_succ]
      refine Till.one (i := 4) (by kernel_rfl) rfl (fun K hK => ?_)
      go_simp
      refine (HC.out V1 HB1.out).mono ?_
      rintro e V2 ⟨v, rfl, hown, hbv⟩
      obtain ⟨VA, VC, rfl, _⟩ := own_row hown
      have HB2 := Lib.hid (below_on HB1.out hbv)
      have Ov := Lib.hid hown
      have Hbv := Lib.hid hbv
      refine hK.out _ _ (fun _ => HS.out _ HB2.out) ?_
      have PL := Lib.hid (PL.out.keep hbv)
      clear hK K hown hbv
      try simp only [List.setIfInBounds_toArray, List.set_cons_zero, List.set_cons_succ]
      refine Till.tk 5 7 22 (.agg #[.string { data := #[] }, .slice none 0 0, .slice none 0 0, .slice none 0 0, .slice none 0 0, .slice none 0 0, .slice f.OA f.n f.oc, .slice VA f.rn VC, .slice none 0 0, .slice none 0 0]) (HS.out _ HB2.out) ?_
      try simp only [Act.put, List.setIfInBounds_toArray, List.set_cons_zero, List.set_cons_succ]
      have z0 := PL.out.at_ 0
      have y0 := PL.out.fz 0
      have z1 := PL.out.at_ 1
      have y1 := PL.out.fz 1
      have z2 := PL.out.at_ 2
      have y2 := PL.out.fz 2
      have z3 := PL.out.at_ 3
      have y3 := PL.out.fz 3
      have z4 := PL.out.at_ 4
      have y4 := PL.out.fz 4
      have z5 := PL.out.at_ 5
      have y5 := PL.out.fz 5
      have z6 := PL.out.at_ 6
      have y6 := PL.out.fz 6
      have z7 := PL.out.at_ 7
      have y7 := PL.out.fz 7
      have z8 := PL.out.at_ 8
      have y8 := PL.out.fz 8
      have z9 := PL.out.at_ 9
      have y9 := PL.out.fz 9
      simp only [List.getElem?_cons_zero, List.getElem?_cons_succ] at z0 z1 z2 z3 z4 z5 z6 z7 z8 z9
      refine Till.one (i := 7) (by kernel_rfl) rfl (fun K hK => ?_)
      go_simp
      refine hK.out _ _ (fun h => absurd h (by simp)) ?_
      clear hK K
      try simp only [List.setIfInBounds_toArray, List.set_cons_zero, List.set_cons_succ]
      refine Till.done (by kernel_rfl) ?_ _
      go_wp2_with fail
      go_meet
      have CL := Cells.wrote PL.out 0 (leftC f (.slice VA f.rn VC)) (Nat.le_refl _)
      have hgr := grown_cells L (leftC f (.slice VA f.rn VC)) 0 V2
      have hnel : ∀ b o x, VA = some ⟨b, o, x⟩ → b ≠ L := fun b o x e => by have := own_at Ov.out e; have := HLs.out; omega
      exact ⟨L, VA, VC, rfl, HL.out, CL, own_grown (own_down Ov.out HB1.out.size) hgr (fun e => by
        cases VA with
        | none => cases e
        | some a => obtain ⟨b, o, x⟩ := a; injection e with e; exact hnel b o x rfl e), hnel, HB2.out.grown hgr HB2.out.size (fun k e => by injection e with e; subst e; exact HL.out)⟩
  case rest =>
    obtain ⟨L, VA, VC, rfl, hLs, hPL, hown, hne, hb⟩ := hcut
    have HP := isPossible_any (leftF f VA f.rn VC) A m d rs ch wc H.out.n12 (HL0.out.keep (below_on B2.out hb)) hm (lowL_of hok'.out H.out.n12) hm2 (by rw [← Hqs.out]; exact RuleL.of_own hown (Hql.out.keep (below_on B2.out hb))) H.out.rsl H.out.low (by show f.rn ≤ _; omega)
    obtain ⟨p, hp⟩ : ∃ p, (AL f.n rs ch).isEmpty = p := ⟨_, rfl⟩
    replace HP : Calls Try.prog 50 #[.agg #[.string { data := #[] }, .slice none 0 0, .slice none 0 0, .slice none 0 0, .slice none 0 0, .slice none 0 0, .slice f.OA f.n f.oc, .slice VA f.rn VC, .slice none 0 0, .slice none 0 0], .slice A m d] wc fun e w' => e = .returned (.bool (!p)) ∧ Below wc.heap.size wc w' := by
      rw [← hp]; exact HP
    have HP := Lib.hid HP
    have P3 := Lib.hid (P2.out.keep hb)
    have B3 := Lib.hid (below_on B2.out hb)
    have z0 := hPL.at_ 0
    have z1 := hPL.at_ 1
    have z2 := hPL.at_ 2
    have z3 := hPL.at_ 3
    have z4 := hPL.at_ 4
    have z5 := hPL.at_ 5
    have z6 := hPL.at_ 6
    have z7 := hPL.at_ 7
    have z8 := hPL.at_ 8
    have z9 := hPL.at_ 9
    simp only [leftC, List.getElem?_cons_zero, List.getElem?_cons_succ] at z0 z1 z2 z3 z4 z5 z6 z7 z8 z9
    have PL3 := Lib.hid hPL
    have Ov3 := Lib.hid hown
    have Hp := Lib.hid hp
    have Hne := Lib.hid hne
    have HLs := Lib.hid hLs
    clear hb hPL hown hp hne hLs
    go_wp2_with fail
    refine HP.out.mono ?_
    rintro e w4 ⟨rfl, hb4⟩
    have B4 := Lib.hid (below_on B3.out hb4)
    have P4 := Lib.hid (P3.out.keep hb4)
    have PL4 := Lib.hid (PL3.out.keep hb4)
    have Ov4 := Lib.hid (own_keep Ov3.out hb4)
    clear hb4 z0 z1 z2 z3 z4 z5 z6 z7 z8 z9
    cases p
    · go_wp2_with fail
      go_ret3
      exact ⟨.inl ⟨fun e => (by rw [e] at Hp; have := Hp.out; cases this), rfl⟩, B4.out⟩
    · have c7 := P4.out.at_ 7
      simp only [List.getElem?_cons_zero, List.getElem?_cons_succ] at c7
      have HE := Lib.hid (show AL f.n rs ch = [] from List.isEmpty_iff.1 Hp.out)
      go_wp2
      go_loopw [4, 29] (fun s i wr => ∃ j : Nat, i = .int .i64 (j : Nat) ∧ j ≤ f.rn ∧ Below w.heap.size w wr ∧ wr.ownsRow w4.heap.size 3 1 s (cfL f.n rs ch j).1.length (natsV (cfL f.n rs ch j).1) ∧ w4.heap.size ≤ wr.heap.size ∧ (j < f.rn → ConfR w f qs L w4.heap.size j (cfL f.n rs ch j).1 (cfL f.n rs ch j).2 s wr)) (fun _ i _ => f.rn - (intOf i).toNat)
      case atStart =>
        refine ⟨0, rfl, Nat.zero_le _, B4.out, World.ownsRow_nil _ _ _ _, Nat.le_refl _, fun h0 => ?_⟩
        have hx := Ov4.out
        rcases hx.2 with ⟨_, h3⟩ | ⟨g, cap, cur, hv, hg, hh, hnc, hcm, hcs, htk⟩
        · omega
        injection hv with hv1 hv2 hv3
        subst hv1
        have hgl := own_at Ov4.out rfl
        have hw2 := B2.out.size
        refine ⟨g, cap, cur.toList, [], ?_, by rw [Array.length_toList, hcs], by unfold maxLen at hcm; omega, ?_, ?_, rfl, by simp, rfl, Nat.le_refl _⟩
        · rw [List.length_nil, Nat.zero_add, Nat.sub_zero, ← hv3]
          exact ⟨PL4.out, Cells.of_row hh, World.ownsRow_nil _ _ _ _, B4.out, Nat.le_trans hw2 HLs.out, Nat.le_trans hw2 hgl.1, PL4.out.lt, hgl.2, Hne.out _ _ _ rfl, Nat.le_refl _⟩
        · rw [List.length_nil, Nat.zero_add, Nat.sub_zero]; exact hnc
        · rw [List.length_nil, Nat.zero_add, Nat.sub_zero, List.nil_append, List.drop_zero]; exact htk
      case round =>
        obtain ⟨j, rfl, hj, hbw, hown, hsz, hR⟩ := hrel
        by_cases hlt : j < f.rn
        · obtain ⟨g, cap, us, K, hst, hul, hcm, hnc, htk, hKs, hKq, hSl, hKj⟩ := hR hlt
          obtain ⟨q, hq⟩ : ∃ q, qs[j]? = some q := ⟨qs[j]'(by omega), List.getElem?_eq_getElem _⟩
          have hrj : rs[j]? = some q.1 := by rw [← Hqs.out, List.getElem?_map, hq]; rfl
          have hdr : qs.drop j = q :: qs.drop (j + 1) := by
            rw [List.drop_eq_getElem_cons (by omega : j < qs.length)]
            rw [List.getElem?_eq_getElem (by omega)] at hq
            injection hq with hq
            rw [hq]
          have hqm : q ∈ qs := List.mem_of_getElem? hq
          have hDl : (qs.drop (j + 1)).length = f.rn - (j + 1) := by rw [List.length_drop, hqlen]
          have hrd : (K ++ qs.drop (j + 1)).map (·.1) = (cfL f.n rs ch j).2 ++ rs.drop (j + 1) := by rw [List.map_append, hKs, List.map_drop, Hqs.out]
          rw [hdr] at htk
          obtain ⟨D, hD⟩ : ∃ D, qs.drop (j + 1) = D := ⟨_, rfl⟩
          rw [hD] at htk hDl hrd
          have HDd := Lib.hid hD
          obtain ⟨rl, hrl⟩ : ∃ r, (cfL f.n rs ch j).2 ++ rs.drop (j + 1) = r := ⟨_, rfl⟩
          obtain ⟨S, hS⟩ : ∃ S, (cfL f.n rs ch j).1 = S := ⟨_, rfl⟩
          obtain ⟨ks, hks⟩ : ∃ S, (cfL f.n rs ch j).2 = S := ⟨_, rfl⟩
          have hout := Lib.hid (show (AL f.n rl ch).isEmpty = true → cfL f.n rs ch (j + 1) = (S, ks) from fun e => (cfL_out hrj (by rw [hrl]; exact e)).trans (by rw [← hS, ← hks]))
          have hin := Lib.hid (show (AL f.n rl ch).isEmpty = false → cfL f.n rs ch (j + 1) = (S ++ [j], ks ++ [q.1]) from fun e => (cfL_in hrj (by rw [hrl]; exact e)).trans (by rw [hS, hks]))
          rw [hrl] at hrd
          rw [hS] at hst hSl hown
          rw [hks] at hKs
          obtain ⟨a, ha⟩ : ∃ a, K.length = a := ⟨_, rfl⟩
          rw [ha] at hst hnc htk hSl hKj
          obtain ⟨N, hN⟩ : ∃ N, a + (f.rn - j) = N + 1 := ⟨a + (f.rn - (j + 1)), by omega⟩
          rw [hN] at hst hnc htk
          have hx1 := cell_of_take hst.cg htk (rflat_at (K ++ q :: D) a q (by rw [← ha, List.getElem?_append_right (Nat.le_refl _), Nat.sub_self]; rfl)).1
          have hx2 := cell_of_take hst.cg htk (rflat_at (K ++ q :: D) a q (by rw [← ha, List.getElem?_append_right (Nat.le_refl _), Nat.sub_self]; rfl)).2
          obtain ⟨SA, SC, rfl, _⟩ := own_row hown
          rw [hSl] at hst ⊢
          have kA := (Below.refl wr.heap.size wr).alloc (Nat.le_refl _) (.cells #[.string q.1.1, .slice q.2.1 q.1.2.length q.2.2] 76)
          have PR := Cells.new wr #[.string q.1.1, .slice q.2.1 q.1.2.length q.2.2] 76
          have stA := hst.low kA
          obtain ⟨wA, hwA⟩ : ∃ u, wr.alloc (.cells #[.string q.1.1, .slice q.2.1 q.1.2.length q.2.2] 76) = u := ⟨_, rfl⟩
          rw [hwA] at kA PR stA
          have ga : a ≤ 48 := by omega
          have gN : N ≤ 1000 := by omega
          have HDel := delete_any g cap (N + 1) a (a + 1) us wA stA.cg hul hnc (Nat.lt_succ_self a) (by omega) hcm (by omega) (by rw [htk]; exact rflat_one _)
          rw [show a + (N + 1 - (a + 1)) = N by omega, show ((a + 1 : Nat) : Int) = (a : Int) + 1 by omega] at HDel
          have e0 : IntKind.i64.wrap ((a : Int) + 1) = (a : Int) + 1 := IntWalk.i64_in _ (by omega)
          have e1 : (a : Int) < (N : Int) + 1 := by omega
          have e2 : a < N + 1 := by omega
          have e3 : (a : Int) < ((N + 1 : Nat) : Int) := by omega
          have hflat := Lib.hid (del_flat htk ha (by omega))
          have zW := hst.cl.at_ 7
          have zA := stA.cl.at_ 7
          simp only [leftC, List.getElem?_cons_zero, List.getElem?_cons_succ] at zW zA
          have HST := Lib.hid stA
          have HDel := Lib.hid HDel
          have PR := Lib.hid PR
          have hlen := Lib.hid hul
          have Hlt := Lib.hid hlt
          have HKq := Lib.hid hKq
          have HKs := Lib.hid hKs
          have Hrd := Lib.hid hrd
          have Ha := Lib.hid ha
          have HN := Lib.hid hN
          have HDl := Lib.hid hDl
          have HSl := Lib.hid hSl
          have HSz := Lib.hid hsz
          have HkA := Lib.hid kA
          have Hks := Lib.hid hks
          have HS := Lib.hid hS
          have HrR := Lib.hid hrl
          have HKj := Lib.hid hKj
          have Hqm := Lib.hid hqm
          have Hnc := Lib.hid hnc
          have Hcm := Lib.hid hcm
          clear hst stA kA hul hKq hKs hrd ha hN hDl hSl hsz hR htk hown hbw hks hS hrl hKj hqm hq hrj hdr hD hj hnc hcm
          go_wp2_with fail
          refine HDel.out.mono ?_
          rintro e wB ⟨rfl, ⟨us1, hul1, htk1, hC1⟩, hg1⟩
          have htk2 := htk1.trans hflat.out
          have stB := HST.out.grow hg1 hC1
          have PB := PR.out.grown hg1 (by have := HST.out.k4; have := HST.out.k6; have := HSz.out; omega)
          have zB := stB.cl.at_ 7
          have yB := stB.cl.fz 7
          simp only [leftC, List.getElem?_cons_zero, List.getElem?_cons_succ] at zB
          have stC := stB.store (.slice (some ⟨g, 0, none⟩) N cap)
          have PC := PB.grown (grown_cells L [.slice (some ⟨g, 0, none⟩) N cap] 7 wB) (by have := HST.out.k3; have := HSz.out; omega)
          replace PC : Cells (wB.setCell ⟨L, 7, none⟩ (.slice (some ⟨g, 0, none⟩) N cap)) wr.heap.size [.string q.1.1, .slice q.2.1 q.1.2.length q.2.2] := PC
          obtain ⟨wC, hwC⟩ : ∃ u, wB.setCell ⟨L, 7, none⟩ (.slice (some ⟨g, 0, none⟩) N cap) = u := ⟨_, rfl⟩
          rw [hwC] at stC PC
          have HP := isPossible_any (leftF f (some ⟨g, 0, none⟩) N cap) A m d rl ch wC H.out.n12 (HL0.out.keep stC.bl) hm (lowL_of hok'.out H.out.n12) hm2 (by rw [← Hrd.out]; exact RuleL.of_cells stC.cg htk2 (fun x hx => by
            rcases List.mem_append.1 hx with h2 | h2
            · exact (Hql.out.keep stC.bl) x (HKq.out x h2)
            · exact (Hql.out.keep stC.bl) x (List.mem_of_mem_drop (by rw [HDd.out]; exact h2)))) (by rw [← Hrd.out, List.length_map, List.length_append, Ha.out, HDl.out]; have := HN.out; have := Hlt.out; show _ = N; omega) (fun r hr => H.out.low r (by
              rw [← Hrd.out] at hr
              obtain ⟨x, hx, rfl⟩ := List.mem_map.1 hr
              rw [← Hqs.out]
              refine List.mem_map.2 ⟨x, ?_, rfl⟩
              rcases List.mem_append.1 hx with h2 | h2
              · exact HKq.out x h2
              · exact List.mem_of_mem_drop (by rw [HDd.out]; exact h2))) (by show N ≤ _; omega)
          obtain ⟨p, hp⟩ : ∃ p, (AL f.n rl ch).isEmpty = p := ⟨_, rfl⟩
          replace HP : Calls Try.prog 50 #[.agg #[.string { data := #[] }, .slice none 0 0, .slice none 0 0, .slice none 0 0, .slice none 0 0, .slice none 0 0, .slice f.OA f.n f.oc, .slice (some ⟨g, 0, none⟩) N cap, .slice none 0 0, .slice none 0 0], .slice A m d] wC fun e w' => e = .returned (.bool (!p)) ∧ Below wC.heap.size wC w' := by
            rw [← hp]; exact HP
          rw [hp] at hout hin
          have HP := Lib.hid HP
          have HSC := Lib.hid stC
          have HPC := Lib.hid PC
          have HtC := Lib.hid htk2
          have hul2 := Lib.hid (hul1.trans hlen.out)
          have z0 := HSC.out.cl.at_ 0
          have z1 := HSC.out.cl.at_ 1
          have z2 := HSC.out.cl.at_ 2
          have z3 := HSC.out.cl.at_ 3
          have z4 := HSC.out.cl.at_ 4
          have z5 := HSC.out.cl.at_ 5
          have z6 := HSC.out.cl.at_ 6
          have z7 := HSC.out.cl.at_ 7
          have z8 := HSC.out.cl.at_ 8
          have z9 := HSC.out.cl.at_ 9
          simp only [leftC, List.getElem?_cons_zero, List.getElem?_cons_succ] at z0 z1 z2 z3 z4 z5 z6 z7 z8 z9
          clear stB PB hul1 htk1 htk2 hC1 hg1 hp zW zA hx1 hx2 stC PC
          go_wp2_with fail
          refine HP.out.mono ?_
          rintro e wD ⟨rfl, hbD⟩
          have stD := HSC.out.low hbD
          have PD := Lib.hid (HPC.out.keep hbD)
          clear z0 z1 z2 z3 z4 z5 z6 z7 z8 z9 zB yB
          cases p
          · have kE := (Below.refl wD.heap.size wD).alloc (Nat.le_refl _) (.cells #[.string q.1.1, .slice q.2.1 q.1.2.length q.2.2] 76)
            have PE := Cells.new wD #[.string q.1.1, .slice q.2.1 q.1.2.length q.2.2] 76
            have stE := stD.low kE
            have zD := stD.cl.at_ 7
            simp only [leftC, List.getElem?_cons_zero, List.getElem?_cons_succ] at zD
            have p0 := PD.out.at_ 0
            have p1 := PD.out.at_ 1
            simp only [List.getElem?_cons_zero, List.getElem?_cons_succ] at p0 p1
            have hgD := stD.cg.lt
            obtain ⟨wE, hwE⟩ : ∃ u, wD.alloc (.cells #[.string q.1.1, .slice q.2.1 q.1.2.length q.2.2] 76) = u := ⟨_, rfl⟩
            rw [hwE] at kE PE stE
            have HI := insert_rule g cap N a wD.heap.size us1 K D q wE stE.cg hul2.out Hnc.out Hcm.out (by omega) PE (by omega) HtC.out Ha.out (by rw [HDl.out]; have := HN.out; have := Hlt.out; omega)
            have HI := Lib.hid HI
            have HSE := Lib.hid stE
            clear kE PE stE stD hbD hgD
            go_wp2_with fail
            refine HI.out.mono ?_
            rintro e wF ⟨rfl, ⟨us2, hul3, htk3, hC3⟩, hg3⟩
            have stF := HSE.out.grow hg3 hC3
            have zF := stF.cl.at_ 7
            have yF := stF.cl.fz 7
            simp only [leftC, List.getElem?_cons_zero, List.getElem?_cons_succ] at zF
            have stG := stF.store (.slice (some ⟨g, 0, none⟩) (N + 1) cap)
            obtain ⟨wG, hwG⟩ : ∃ u, wF.setCell ⟨L, 7, none⟩ (.slice (some ⟨g, 0, none⟩) (N + 1) cap) = u := ⟨_, rfl⟩
            rw [hwG] at stG
            have HSG := Lib.hid stG
            have hul4 := Lib.hid (hul3.trans hul2.out)
            have HtG := Lib.hid htk3
            clear hul3 htk3 hC3 hg3 stF stG zD p0 p1
            obtain ⟨i0, hi, hz0, hz1, hz2⟩ := info_parts info_intV
            have hoG := HSG.out.ow
            rw [HSl.out] at hoG
            have OG := Lib.hid hoG
            clear hoG
            go_wp2_with (at_builtin; refine wpList_append_own _ rfl _ _ 51 rfl w4.heap.size 3 i0 (.int .i64 0) 1 8 Try.underlying51 hi hz0 hz1 hz2 rfl (by decide) _ _ _ rfl (OG.out.alloc _) ⟨wG.heap.size, 0, none⟩ 1 1 [.int .i64 (j : Nat)] rfl rfl ?c1 ?c2 ?c3 ?c4 ?c5 ?_)
            case c1 => exact cell_one_new _ _ _
            case c2 => intro u hu; simp at hu; subst hu; rfl
            case c3 => unfold maxLen; omega
            case c4 => omega
            case c5 => simp; have := HSG.out.k6; omega
            intro v' w5 hown' hgrow _
            have ho5 : w5.ownsRow w4.heap.size 3 1 v' (S ++ [j]).length (natsV (S ++ [j])) := by
              rw [natsV_snoc, List.length_append, HSl.out]
              exact hown'
            have HS5 := Lib.hid (HSG.out.push hgrow ho5)
            clear hown' hgrow ho5
            go_wp2
            go_roundw
            case rel =>
              refine ⟨j + 1, by go_num, Hlt.out, HS5.out.bl, by rw [hin.out (by trivial)]; exact HS5.out.ow, HS5.out.k6, fun hl1 => ?_⟩
              rw [hin.out (by trivial)]
              refine ⟨g, cap, us2, K ++ [q], ?_, hul4.out, Hcm.out, ?_, ?_, by rw [List.map_append, HKs.out]; rfl, fun x hx => ?_, by rw [List.length_append, List.length_append, HSl.out, Ha.out]; rfl, by rw [List.length_append, Ha.out]; have := HKj.out; simp; omega⟩
              · rw [List.length_append, Ha.out, List.length_singleton, show a + 1 + (f.rn - (j + 1)) = N + 1 by have := HN.out; omega]; exact HS5.out
              · rw [List.length_append, Ha.out, List.length_singleton]; have := Hnc.out; have := HN.out; omega
              · rw [List.length_append, Ha.out, List.length_singleton, show a + 1 + (f.rn - (j + 1)) = N + 1 by have := HN.out; omega, HDd.out]; exact HtG.out
              · rcases List.mem_append.1 hx with h2 | h2
                · exact HKq.out x h2
                · rw [List.mem_singleton.1 h2]; exact Hqm.out
            case measure => simp [intOf]; have := Hlt.out; omega
          · have HSD := Lib.hid stD
            clear stD hbD
            go_wp2_with fail
            go_roundw
            case rel =>
              refine ⟨j + 1, by go_num, Hlt.out, HSD.out.bl, by rw [hout.out (by trivial)]; rw [HSl.out]; have := HSD.out.ow; rw [HSl.out] at this; exact this, HSD.out.k6, fun hl1 => ?_⟩
              rw [hout.out (by trivial)]
              refine ⟨g, cap, us1, K, ?_, hul2.out, Hcm.out, ?_, ?_, HKs.out, HKq.out, by rw [HSl.out, Ha.out], by rw [Ha.out]; have := HKj.out; omega⟩
              · rw [Ha.out, show a + (f.rn - (j + 1)) = N by have := HN.out; omega]; exact HSD.out
              · rw [Ha.out]; have := Hnc.out; have := HN.out; omega
              · rw [Ha.out, show a + (f.rn - (j + 1)) = N by have := HN.out; omega, HDd.out]; exact HtC.out
            case measure => simp [intOf]; have := Hlt.out; omega
        · have hjn : j = f.rn := by omega
          rw [hjn] at hown
          go_wp2_with fail
          go_ret3
          exact ⟨.inr ⟨HE.out, _, rfl, own_down hown B4.out.size⟩, hbw⟩
end Go.Proofs.Ytmfmpkihmadjmaa
