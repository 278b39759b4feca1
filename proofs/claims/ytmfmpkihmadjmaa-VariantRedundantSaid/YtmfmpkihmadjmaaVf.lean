/- Families in memory, and that they are valid. -/
import Derived.Test.YtmfmpkihmadjmaaVk
namespace Go.Proofs.Ytmfmpkihmadjmaa
open Go.RowKit Go.Maps Go.WideMaps
def StrL (w : World) (A : Option Addr) (ss : List ByteArray) : Prop :=
  ∀ k s, ss[k]? = some s → ∃ b o, A = some ⟨b, o, none⟩ ∧ b < w.heap.size ∧ w.cell? ⟨b, o + k, none⟩ = some (.string s)
theorem StrL.keep {w w' : World} {A : Option Addr} {ss : List ByteArray} (h : StrL w A ss) (hb : Below w.heap.size w w') : StrL w' A ss :=
  fun k s hk => let ⟨b, o, e1, hlt, hc⟩ := h k s hk; ⟨b, o, e1, Nat.lt_of_lt_of_le hlt hb.size, (hb.cell (p := ⟨b, o + k, none⟩) hlt).trans hc⟩
theorem StrL.at_ {w : World} {A : Option Addr} {ss : List ByteArray} (h : StrL w A ss) {k : Nat} (hk : k < ss.length) : ∃ s b o, ss[k]? = some s ∧ A = some ⟨b, o, none⟩ ∧ b < w.heap.size ∧ w.cell? ⟨b, o + k, none⟩ = some (.string s) :=
  let ⟨b, o, h1⟩ := h k ss[k] (List.getElem?_eq_getElem hk)
  ⟨_, b, o, List.getElem?_eq_getElem hk, h1⟩
def GuardL (w : World) (A : Option Addr) (gs : List (Nat × List (Nat × Bool))) : Prop :=
  ∀ k g, gs[k]? = some g → ∃ b o A' c, A = some ⟨b, o, none⟩ ∧ b < w.heap.size ∧ w.cell? ⟨b, o + k * 2, none⟩ = some (.int .i64 (g.1 : Nat)) ∧ w.cell? ⟨b, o + k * 2 + 1, none⟩ = some (.slice A' g.2.length c) ∧ LitL w A' (lc g.2)
theorem GuardL.keep {w w' : World} {A : Option Addr} {gs : List (Nat × List (Nat × Bool))} (h : GuardL w A gs) (hb : Below w.heap.size w w') : GuardL w' A gs :=
  fun k r hk => let ⟨b, o, A', c, e1, hlt, hc, hd, hl⟩ := h k r hk; ⟨b, o, A', c, e1, Nat.lt_of_lt_of_le hlt hb.size, (hb.cell (p := ⟨b, o + k * 2, none⟩) hlt).trans hc, (hb.cell (p := ⟨b, o + k * 2 + 1, none⟩) hlt).trans hd, hl.keep hb⟩
theorem GuardL.at_ {w : World} {A : Option Addr} {gs : List (Nat × List (Nat × Bool))} (h : GuardL w A gs) {k : Nat} (hk : k < gs.length) : ∃ g b o A' c, gs[k]? = some g ∧ A = some ⟨b, o, none⟩ ∧ b < w.heap.size ∧ w.cell? ⟨b, o + k * 2, none⟩ = some (.int .i64 (g.1 : Nat)) ∧ w.cell? ⟨b, o + k * 2 + 1, none⟩ = some (.slice A' g.2.length c) ∧ LitL w A' (lc g.2) :=
  let ⟨b, o, A', c, h1⟩ := h k gs[k] (List.getElem?_eq_getElem hk)
  ⟨_, b, o, A', c, List.getElem?_eq_getElem hk, h1⟩
/-- A dimension: its name, and three numbers. -/
structure Dm where
  nm : ByteArray
  no : Int
  lo : Int
  up : Int
/-- An override: its literals, the number of a dimension, and what it becomes. -/
structure Ov where
  all : List (Nat × Bool)
  dim : Nat
  nw : Dm
def DimL (w : World) (A : Option Addr) (ds : List Dm) : Prop :=
  ∀ k d, ds[k]? = some d → ∃ b o, A = some ⟨b, o, none⟩ ∧ b < w.heap.size ∧ w.cell? ⟨b, o + k * 4, none⟩ = some (.string d.nm) ∧ w.cell? ⟨b, o + k * 4 + 1, none⟩ = some (.int .i64 d.no) ∧ w.cell? ⟨b, o + k * 4 + 2, none⟩ = some (.int .i64 d.lo) ∧ w.cell? ⟨b, o + k * 4 + 3, none⟩ = some (.int .i64 d.up)
theorem DimL.keep {w w' : World} {A : Option Addr} {ds : List Dm} (h : DimL w A ds) (hb : Below w.heap.size w w') : DimL w' A ds :=
  fun k r hk => let ⟨b, o, e1, hlt, h0, h1, h2, h3⟩ := h k r hk; ⟨b, o, e1, Nat.lt_of_lt_of_le hlt hb.size, (hb.cell (p := ⟨b, o + k * 4, none⟩) hlt).trans h0, (hb.cell (p := ⟨b, o + k * 4 + 1, none⟩) hlt).trans h1, (hb.cell (p := ⟨b, o + k * 4 + 2, none⟩) hlt).trans h2, (hb.cell (p := ⟨b, o + k * 4 + 3, none⟩) hlt).trans h3⟩
def OverL (w : World) (A : Option Addr) (vs : List Ov) : Prop :=
  ∀ k v, vs[k]? = some v → ∃ b o A' c, A = some ⟨b, o, none⟩ ∧ b < w.heap.size ∧ w.cell? ⟨b, o + k * 6, none⟩ = some (.slice A' v.all.length c) ∧ w.cell? ⟨b, o + k * 6 + 1, none⟩ = some (.int .i64 (v.dim : Nat)) ∧ w.cell? ⟨b, o + k * 6 + 2, none⟩ = some (.string v.nw.nm) ∧ w.cell? ⟨b, o + k * 6 + 3, none⟩ = some (.int .i64 v.nw.no) ∧ w.cell? ⟨b, o + k * 6 + 4, none⟩ = some (.int .i64 v.nw.lo) ∧ w.cell? ⟨b, o + k * 6 + 5, none⟩ = some (.int .i64 v.nw.up) ∧ LitL w A' (lc v.all)
theorem OverL.keep {w w' : World} {A : Option Addr} {vs : List Ov} (h : OverL w A vs) (hb : Below w.heap.size w w') : OverL w' A vs :=
  fun k r hk => let ⟨b, o, A', c, e1, hlt, h0, h1, h2, h3, h4, h5, hl⟩ := h k r hk; ⟨b, o, A', c, e1, Nat.lt_of_lt_of_le hlt hb.size, (hb.cell (p := ⟨b, o + k * 6, none⟩) hlt).trans h0, (hb.cell (p := ⟨b, o + k * 6 + 1, none⟩) hlt).trans h1, (hb.cell (p := ⟨b, o + k * 6 + 2, none⟩) hlt).trans h2, (hb.cell (p := ⟨b, o + k * 6 + 3, none⟩) hlt).trans h3, (hb.cell (p := ⟨b, o + k * 6 + 4, none⟩) hlt).trans h4, (hb.cell (p := ⟨b, o + k * 6 + 5, none⟩) hlt).trans h5, hl.keep hb⟩
theorem OverL.at_ {w : World} {A : Option Addr} {vs : List Ov} (h : OverL w A vs) {k : Nat} (hk : k < vs.length) : ∃ v b o A' c, vs[k]? = some v ∧ A = some ⟨b, o, none⟩ ∧ b < w.heap.size ∧ w.cell? ⟨b, o + k * 6, none⟩ = some (.slice A' v.all.length c) ∧ w.cell? ⟨b, o + k * 6 + 1, none⟩ = some (.int .i64 (v.dim : Nat)) ∧ w.cell? ⟨b, o + k * 6 + 2, none⟩ = some (.string v.nw.nm) ∧ w.cell? ⟨b, o + k * 6 + 3, none⟩ = some (.int .i64 v.nw.no) ∧ w.cell? ⟨b, o + k * 6 + 4, none⟩ = some (.int .i64 v.nw.lo) ∧ w.cell? ⟨b, o + k * 6 + 5, none⟩ = some (.int .i64 v.nw.up) ∧ LitL w A' (lc v.all) :=
  let ⟨b, o, A', c, h1⟩ := h k vs[k] (List.getElem?_eq_getElem hk)
  ⟨_, b, o, A', c, List.getElem?_eq_getElem hk, h1⟩
/-- A family in memory that is valid. -/
structure FamOK (w : World) (f : Fm) (os : List ByteArray) (rs : List (ByteArray × List (Nat × Bool))) (gs : List (Nat × List (Nat × Bool))) (vs : List Ov) (ds : List Dm) : Prop where
  osL : StrL w f.OA os
  osl : os.length = f.n
  n12 : f.n ≤ 12
  osn : ∀ s ∈ os, nameB s
  oso : ∀ j s t, os[j]? = some s → os[j + 1]? = some t → Op.bytesLess s.toList t.toList = true
  rsL : RuleL w f.RA rs
  rsl : rs.length = f.rn
  r48 : f.rn ≤ 48
  rsn : ∀ r ∈ rs, nameB r.1 ∧ r.2.length ≤ 12 ∧ chE f.n none (lc r.2) = 0
  rsd : (rs.map (·.1)).Nodup
  gsL : GuardL w f.GA gs
  gsl : gs.length = f.gn
  g48 : f.gn ≤ 48
  gsn : ∀ g ∈ gs, g.1 < f.iN ∧ g.2.length ≤ 12 ∧ chE f.n none (lc g.2) = 0
  vsL : OverL w f.VA vs
  vsl : vs.length = f.vn
  v48 : f.vn ≤ 48
  vsn : ∀ v ∈ vs, v.all.length ≤ 12 ∧ chE f.n none (lc v.all) = 0 ∧ ∃ d, ds[v.dim]? = some d ∧ v.nw.nm = d.nm
  dsL : DimL w f.DA ds
  dsl : ds.length = f.dn
  dn6 : f.dn ≤ 1000
  in6 : f.iN ≤ 1000
theorem FamOK.keep {w w' : World} {f : Fm} {os : List ByteArray} {rs : List (ByteArray × List (Nat × Bool))} {gs : List (Nat × List (Nat × Bool))} {vs : List Ov} {ds : List Dm} (h : FamOK w f os rs gs vs ds) (hb : Below w.heap.size w w') : FamOK w' f os rs gs vs ds :=
  { h with osL := h.osL.keep hb, rsL := h.rsL.keep hb, gsL := h.gsL.keep hb, vsL := h.vsL.keep hb, dsL := h.dsL.keep hb }
theorem chE_low {n : Nat} : ∀ {p : Option Int} {ls : List (Nat × Bool)}, chE n p (lc ls) = 0 → ∀ l ∈ ls, l.1 < n
  | _, [], _, l, hl => by cases hl
  | p, x :: ls, h, l, hl => by
    have h' : chE n p (((x.1 : Int), x.2) :: lc ls) = 0 := h
    rw [chE] at h'
    split at h'
    · cases h'
    · split at h'
      · cases h'
      · rename_i h1 _
        simp only at h1
        rcases List.mem_cons.1 hl with e | e
        · subst e; omega
        · exact chE_low h' l e
theorem FamOK.low {w : World} {f : Fm} {os : List ByteArray} {rs : List (ByteArray × List (Nat × Bool))} {gs : List (Nat × List (Nat × Bool))} {vs : List Ov} {ds : List Dm} (h : FamOK w f os rs gs vs ds) : LowR rs := fun r hr => by
  obtain ⟨_, h2, h3⟩ := h.rsn r hr
  exact ⟨fun l hl => Nat.lt_of_lt_of_le (chE_low h3 l hl) h.n12, by omega⟩
set_option maxRecDepth 100000 in
set_option maxHeartbeats 8000000 in
theorem checkOverride_ok (f : Fm) (A : Option Addr) (m d : Nat) (ls : List (Nat × Bool)) (dim : Nat) (nm : ByteArray) (no lo up : Int) (ds : List Dm) (w : World) (h : LitL w A (lc ls)) (hm : ls.length = m) (hm2 : m ≤ 12) (hn : f.n ≤ 12) (hc : chE f.n none (lc ls) = 0)
    (hd : DimL w f.DA ds) (hdl : ds.length = f.dn) (_hdn : f.dn ≤ 1000) (hdm : ∃ q, ds[dim]? = some q ∧ nm = q.nm) :
    Calls Try.prog 64 #[f.v, .agg #[.slice A m d, .int .i64 (dim : Nat), .string nm, .int .i64 no, .int .i64 lo, .int .i64 up]] w fun e w' => e = .returned (.int .i64 0) ∧ Below w.heap.size w w' := by
  obtain ⟨q, hq, hnm⟩ := hdm
  have hdim : dim < f.dn := by
    rw [← hdl]
    rcases Nat.lt_or_ge dim ds.length with h1 | h1
    · exact h1
    · rw [List.getElem?_eq_none h1] at hq; cases hq
  obtain ⟨bd, od, hDA, hbd, hcd, _⟩ := hd dim q hq
  rw [← hnm] at hcd
  have HDA := Lib.hid hDA
  clear hDA
  have k1 := (Below.refl w.heap.size w).alloc (Nat.le_refl _) (.cells f.cells 40)
  have P1 := Cells.new w f.cells 40
  have s1 : (w.alloc (.cells f.cells 40)).heap.size = w.heap.size + 1 := by simp
  obtain ⟨w1, hw1⟩ : ∃ u, w.alloc (.cells f.cells 40) = u := ⟨_, rfl⟩
  have hw1' : w.alloc (.cells #[.string f.nm, .slice f.PA f.pn f.pc, .slice f.IA f.iN f.ic, .slice f.DA f.dn f.dc, .slice f.KA f.kn f.kc, .slice f.QA f.qn f.qc, .slice f.OA f.n f.oc, .slice f.RA f.rn f.rc, .slice f.GA f.gn f.gc, .slice f.VA f.vn f.vc] 40) = w1 := hw1
  rw [hw1] at k1 P1 s1
  have k2 := (Below.refl w1.heap.size w1).alloc (Nat.le_refl _) (.cells #[.slice A m d, .int .i64 (dim : Nat), .string nm, .int .i64 no, .int .i64 lo, .int .i64 up] 92)
  have P2 := Cells.new w1 #[.slice A m d, .int .i64 (dim : Nat), .string nm, .int .i64 no, .int .i64 lo, .int .i64 up] 92
  rw [s1] at P2
  have P1 := Lib.hid (P1.keep k2)
  have B2 := Lib.hid (below_on k1 k2)
  obtain ⟨w2, hw2⟩ : ∃ u, w1.alloc (.cells #[.slice A m d, .int .i64 (dim : Nat), .string nm, .int .i64 no, .int .i64 lo, .int .i64 up] 92) = u := ⟨_, rfl⟩
  rw [hw2] at P1 P2 B2
  have P2 := Lib.hid P2
  have HC := checkChoice_any f A m d (lc ls) w2 (h.keep B2.out) (by rw [lc_len, hm]) (by omega) (by omega)
  rw [hc] at HC
  have HC := Lib.hid HC
  have D2 := Lib.hid ((B2.out.cell (p := ⟨bd, od + dim * 4, none⟩) hbd).trans hcd)
  clear k1 k2 h hm hc hd hdl hq hnm hcd hw1
  go_enter Try.func64, Try.ntmps64
  have g0 := P2.out.at_ 0
  have g1 := P2.out.at_ 1
  have g2 := P2.out.at_ 2
  have g3 := P2.out.at_ 3
  have g4 := P2.out.at_ 4
  have g5 := P2.out.at_ 5
  have c0 := P1.out.at_ 0
  have c1 := P1.out.at_ 1
  have c2 := P1.out.at_ 2
  have c3 := P1.out.at_ 3
  have c4 := P1.out.at_ 4
  have c5 := P1.out.at_ 5
  have c6 := P1.out.at_ 6
  have c7 := P1.out.at_ 7
  have c8 := P1.out.at_ 8
  have c9 := P1.out.at_ 9
  simp only [List.getElem?_cons_zero, List.getElem?_cons_succ] at g0 g1 g2 g3 g4 g5 c0 c1 c2 c3 c4 c5 c6 c7 c8 c9
  go_wp2_with fail
  refine HC.out.mono ?_
  rintro e w3 ⟨rfl, hb3⟩
  have P1 := Lib.hid (P1.out.keep hb3)
  have P2 := Lib.hid (P2.out.keep hb3)
  have D3 := Lib.hid ((hb3.cell (World.block_lt_of_cell? _ _ D2.out)).trans D2.out)
  have B2 := Lib.hid (below_on B2.out hb3)
  clear hb3 HC D2 g0 g1 g2 g3 g4 g5 c0 c1 c2 c3 c4 c5 c6 c7 c8 c9 hw1' hw2 s1
  obtain ⟨wm, rfl⟩ : ∃ u, u = w3 := ⟨_, rfl⟩
  have D1 := Lib.hid (fun w' (hb : Below wm.heap.size wm w') => (hb.cell (World.block_lt_of_cell? _ _ D3.out)).trans D3.out)
  have g1 := P2.out.at_ 1
  have c3 := P1.out.at_ 3
  simp only [List.getElem?_cons_zero, List.getElem?_cons_succ] at g1 c3
  have t0 : decide ((dim : Int) < 0) = false := decide_eq_false (by omega)
  have t1 : decide ((f.dn : Int) ≤ (dim : Int)) = false := decide_eq_false (by omega)
  have t2 : decide (f.dn ≤ dim) = false := decide_eq_false (by omega)
  have i1 : (dim : Int) < (f.dn : Int) := by omega
  go_upto_region 6 with fail
  have HS := Lib.hid (fun w' (hb : Below wm.heap.size wm w') => (⟨(P2.out.keep hb).at_ 2, (by have h3 := (P1.out.keep hb).at_ 3; simp only [List.getElem?_cons_zero, List.getElem?_cons_succ] at h3; rw [HDA.out] at h3; exact h3), (P2.out.keep hb).at_ 1, D1.out _ hb⟩ : w'.cell? ⟨w.heap.size + 1, 2, none⟩ = some (.string nm) ∧ w'.cell? ⟨w.heap.size, 3, none⟩ = some (.slice (some ⟨bd, od, none⟩) f.dn f.dc) ∧ w'.cell? ⟨w.heap.size + 1, 1, none⟩ = some (.int .i64 (dim : Nat)) ∧ w'.cell? ⟨bd, od + dim * 4, none⟩ = some (.string nm)))
  refine Till.begin 11 (fun w' => w'.cell? ⟨w.heap.size + 1, 2, none⟩ = some (.string nm) ∧ w'.cell? ⟨w.heap.size, 3, none⟩ = some (.slice (some ⟨bd, od, none⟩) f.dn f.dc) ∧ w'.cell? ⟨w.heap.size + 1, 1, none⟩ = some (.int .i64 (dim : Nat)) ∧ w'.cell? ⟨bd, od + dim * 4, none⟩ = some (.string nm)) (by kernel_rfl) (HS.out _ (Below.refl _ _).drew) (fun hH => ?_)
  clear hH
  have HB := Lib.hid (Below.refl wm.heap.size wm).drew
  generalize wm.drew = v0 at HB ⊢
  try simp only [List.setIfInBounds_toArray, List.set_cons_zero, List.set_cons_succ]
  refine Till.tL 0 [1, 2, 11] 25 (.pointer (some ⟨w.heap.size + 1, 2, none⟩)) (HS.out _ HB.out) ?_
  try simp only [Act.put, List.setIfInBounds_toArray, List.set_cons_zero, List.set_cons_succ]
  refine Till.tk 1 2 26 (.pointer (some ⟨w.heap.size + 1, 2, none⟩)) (HS.out _ HB.out) ?_
  try simp only [Act.put, List.setIfInBounds_toArray, List.set_cons_zero, List.set_cons_succ]
  refine Till.tk 2 11 27 (.string nm) (HS.out _ HB.out) ?_
  try simp only [Act.put, List.setIfInBounds_toArray, List.set_cons_zero, List.set_cons_succ]
  refine Till.tL 3 [4, 5, 8, 9, 10, 11] 28 (.pointer (some ⟨w.heap.size, 0, none⟩)) (HS.out _ HB.out) ?_
  try simp only [Act.put, List.setIfInBounds_toArray, List.set_cons_zero, List.set_cons_succ]
  refine Till.tL 4 [5, 8, 9, 10, 11] 29 (.pointer (some ⟨w.heap.size, 3, none⟩)) (HS.out _ HB.out) ?_
  try simp only [Act.put, List.setIfInBounds_toArray, List.set_cons_zero, List.set_cons_succ]
  refine Till.tL 5 [8, 9, 10, 11] 30 (.slice (some ⟨bd, od, none⟩) f.dn f.dc) (HS.out _ HB.out) ?_
  try simp only [Act.put, List.setIfInBounds_toArray, List.set_cons_zero, List.set_cons_succ]
  refine Till.one (i := 6) (by kernel_rfl) rfl (fun K hK => ?_)
  go_simp
  refine hK.out _ _ (fun _ => HS.out _ HB.out) ?_
  clear hK K
  try simp only [List.setIfInBounds_toArray, List.set_cons_zero, List.set_cons_succ]
  refine Till.tL 7 [8, 9, 10, 11] 32 (.int .i64 (dim : Nat)) (HS.out _ HB.out) ?_
  try simp only [Act.put, List.setIfInBounds_toArray, List.set_cons_zero, List.set_cons_succ]
  refine Till.one (i := 8) (by kernel_rfl) rfl (fun K hK => ?_)
  go_simp
  refine hK.out _ _ (fun _ => HS.out _ HB.out) ?_
  clear hK K
  try simp only [List.setIfInBounds_toArray, List.set_cons_zero, List.set_cons_succ]
  refine Till.one (i := 9) (by kernel_rfl) rfl (fun K hK => ?_)
  go_simp
  refine hK.out _ _ (fun _ => HS.out _ HB.out) ?_
  clear hK K
  try simp only [List.setIfInBounds_toArray, List.set_cons_zero, List.set_cons_succ]
  refine Till.tk 10 11 35 (.string nm) (HS.out _ HB.out) ?_
  try simp only [Act.put, List.setIfInBounds_toArray, List.set_cons_zero, List.set_cons_succ]
  refine Till.one (i := 11) (by kernel_rfl) rfl (fun K hK => ?_)
  go_simp
  refine hK.out _ _ (fun h => absurd h (by simp)) ?_
  clear hK K
  try simp only [List.setIfInBounds_toArray, List.set_cons_zero, List.set_cons_succ]
  refine Till.done (by kernel_rfl) ?_ _
  go_wp2_with fail
  go_ret
  exact ⟨rfl, below_on B2.out HB.out⟩
end Go.Proofs.Ytmfmpkihmadjmaa
