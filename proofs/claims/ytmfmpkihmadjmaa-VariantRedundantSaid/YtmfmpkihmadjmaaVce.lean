/- Two families under way: one keeps what remains, the other one all rules so far. -/
import Derived.Laws.OwnMore
import Derived.Test.YtmfmpkihmadjmaaVcd
import Derived.Test.YtmfmpkihmadjmaaVau
namespace Go.Proofs.Ytmfmpkihmadjmaa
open Go.RowKit Go.Shelf
theorem own_lt' {w : World} {B n sz : Nat} {e : TypeId} {v : Value} {xs : List Value} (h : w.ownsRow B e sz v n xs) {k : Nat} (hk : v.ownBlock = some k) : k < w.heap.size := by
  rcases h.2 with ⟨rfl, _⟩ | ⟨g, cap, cur, rfl, _, hh, _⟩
  · simp [Value.ownBlock] at hk
  · simp [Value.ownBlock] at hk
    subst hk
    rcases Nat.lt_or_ge g w.heap.size with h1 | h1
    · exact h1
    · rw [Array.getElem?_eq_none h1] at hh; cases hh
theorem own_stay {x y : World} {B n sz : Nat} {e : TypeId} {v : Value} {xs : List Value} {row : Option Nat} (h : x.ownsRow B e sz v n xs) (hg : x.grownBy y row) (hne : ∀ k, v.ownBlock = some k → some k ≠ row) : y.ownsRow B e sz v n xs := by
  refine ⟨h.1, ?_⟩
  rcases h.2 with h0 | ⟨g, cap, cur, rfl, hB, hh, hr⟩
  · exact .inl h0
  · have hlt : g < x.heap.size := own_lt' h rfl
    exact .inr ⟨g, cap, cur, rfl, hB, (hg.block g hlt (hne g rfl)).trans hh, hr⟩
theorem cells_apart {x y : World} {p : Nat} {vs : List Value} {row : Option Nat} (h : Cells x p vs) (hg : x.grownBy y row) (hne : row ≠ some p) : Cells y p vs := by
  have hb := hg.block p h.lt (fun e => hne e.symm)
  exact ⟨fun i => (World.cell?_of_block (a := ⟨p, i, none⟩) hb).trans (h.at_ i), fun i => (World.frozen?_of_block (a := ⟨p, i, none⟩) hb).trans (h.fz i), Nat.lt_of_lt_of_le h.lt hg.size⟩
/-- A family with other rules. -/
def withR (f : Fm) (RA : Option Addr) (rn rc : Nat) : Fm := { f with RA := RA, rn := rn, rc := rc }
theorem withR_sub {w : World} {f : Fm} {os : List ByteArray} {rs : List Ru} {gs : List (Nat × List (Nat × Bool))} {vs : List Ov} {ds : List Dm} (h : FamOK w f os rs gs vs ds) {l : List Ru} (hl : l.Sublist rs) {RA : Option Addr} {rc n : Nat} (hn : l.length = n) (hR : RuleL w RA l) :
    FamOK w (withR f RA n rc) os l gs vs ds :=
  { h with
    rsL := hR
    rsl := hn
    r48 := by
      have h1 := hl.length_le
      have h2 := h.rsl
      have h3 := h.r48
      show n ≤ 48
      omega
    rsn := fun r hr => h.rsn r (hl.subset hr)
    rsd := List.Nodup.sublist (hl.map _) h.rsd }
theorem lessL_sub {n j : Nat} {rs : List Ru} (hj : j ≤ rs.length) : (lessL n rs j).Sublist rs := by
  have hs : ∀ j, j ≤ rs.length → (lessL n rs j).Sublist (rs.take j) := by
    intro j
    induction j with
    | zero => intro _; simp [lessL]
    | succ j ih =>
      intro hj
      have hr : rs[j]? = some rs[j] := List.getElem?_eq_getElem (by omega)
      rw [List.take_add_one, hr]
      cases hf : folB n rs (2 ^ n) j with
      | true => rw [lessL_yes hf]; exact (ih (by omega)).trans (List.sublist_append_left _ _)
      | false => rw [lessL_no hf hr]; exact (ih (by omega)).append (List.Sublist.refl _)
  exact (hs j hj).trans (List.take_sublist _ _)
/-- The cells of a family whose rules are v. -/
abbrev gcR (f : Fm) (v : Value) : List Value := [.string f.nm, .slice f.PA f.pn f.pc, .slice f.IA f.iN f.ic, .slice f.DA f.dn f.dc, .slice f.KA f.kn f.kc, .slice f.QA f.qn f.qc, .slice f.OA f.n f.oc, v, .slice f.GA f.gn f.gc, .slice f.VA f.vn f.vc]
structure TR (w3 w : World) (B pl pb : Nat) (f : Fm) (vl vb : Value) (ql qb : List Rq) : Prop where
  cl : Cells w pl (gcR f vl)
  cb : Cells w pb (gcR f vb)
  ol : w.ownsRow B 76 2 vl ql.length (rflat ql)
  ob : w.ownsRow B 76 2 vb qb.length (rflat qb)
  sep : ∀ k, vl.ownBlock = some k → vb.ownBlock ≠ some k
  low : Below w3.heap.size w3 w
  ne : pl ≠ pb
  pl3 : w3.heap.size ≤ pl
  pb3 : w3.heap.size ≤ pb
  plB : pl < B
  pbB : pb < B
  BW : B ≤ w.heap.size
  ll : LitQ w3 ql
  lb : LitQ w3 qb
theorem TR.keep {w3 w x : World} {B pl pb : Nat} {f : Fm} {vl vb : Value} {ql qb : List Rq} (h : TR w3 w B pl pb f vl vb ql qb) (hb : Below w.heap.size w x) : TR w3 x B pl pb f vl vb ql qb :=
  { h with cl := h.cl.keep hb, cb := h.cb.keep hb, ol := own_keep h.ol hb, ob := own_keep h.ob hb, low := below_on h.low hb, BW := Nat.le_trans h.BW hb.size }
theorem TR.newB {w3 w x : World} {B pl pb : Nat} {f : Fm} {vl vb v' : Value} {ql qb qs : List Rq} (h : TR w3 w B pl pb f vl vb ql qb) (hb : Below w.heap.size w x) (ho : x.ownsRow w.heap.size 76 2 v' qs.length (rflat qs)) (hq : LitQ w3 qs) :
    (x.cell? ⟨pb, 7, none⟩ = some vb ∧ x.frozen? ⟨pb, 7, none⟩ = false) ∧ TR w3 (x.setCell ⟨pb, 7, none⟩ v') B pl pb f vl v' ql qs := by
  have k := h.keep hb
  have G4 := grown_cells pb [v'] 7 x
  have e4 : x.setCells pb 7 [v'] = x.setCell ⟨pb, 7, none⟩ v' := rfl
  rw [e4] at G4
  have hB := h.BW
  have hpb := h.pbB
  refine ⟨⟨k.cb.at_ 7, k.cb.fz 7⟩, ?_⟩
  exact { cl := k.cl.other h.ne 7 v'
          cb := k.cb.set 7 v' (by show 7 < 10; decide)
          ol := own_grown k.ol G4 (own_apart k.ol hpb)
          ob := own_down (own_grown ho G4 (own_apart ho (by omega))) hB
          sep := fun q hq h2 => by
            have h3 := own_lt' h.ol hq
            have h4 := own_ge ho h2
            omega
          low := k.low.setCell (p := ⟨pb, 7, none⟩) h.pb3 v'
          ne := h.ne, pl3 := h.pl3, pb3 := h.pb3, plB := h.plB, pbB := h.pbB
          BW := Nat.le_trans k.BW G4.size
          ll := h.ll, lb := hq }
theorem TR.appL {w3 w x : World} {B pl pb : Nat} {f : Fm} {vl vb v' : Value} {ql qb : List Rq} {q : Rq} (h : TR w3 w B pl pb f vl vb ql qb) (hg : w.grownBy x vl.ownBlock) (ho : x.ownsRow B 76 2 v' (ql ++ [q]).length (rflat (ql ++ [q]))) (hw : ∀ g, v'.ownBlock = some g → vl.ownBlock = some g ∨ w.heap.size ≤ g) (hq : LitL w3 q.2.1 (lc q.1.2)) :
    (x.cell? ⟨pl, 7, none⟩ = some vl ∧ x.frozen? ⟨pl, 7, none⟩ = false) ∧ TR w3 (x.setCell ⟨pl, 7, none⟩ v') B pl pb f v' vb (ql ++ [q]) qb := by
  have hB := h.BW
  have hpl := h.plB
  have hpb := h.pbB
  have hp3 := h.pl3
  have C := cells_grown h.ol hpl hB h.cl hg
  have D := cells_grown h.ol hpb hB h.cb hg
  have G4 := grown_cells pl [v'] 7 x
  have e4 : x.setCells pl 7 [v'] = x.setCell ⟨pl, 7, none⟩ v' := rfl
  rw [e4] at G4
  have ob' := own_stay h.ob hg (fun k hk e => h.sep k e.symm hk)
  refine ⟨⟨C.at_ 7, C.fz 7⟩, ?_⟩
  exact { cl := C.set 7 v' (by show 7 < 10; decide)
          cb := D.other h.ne.symm 7 v'
          ol := own_grown ho G4 (own_apart ho hpl)
          ob := own_grown ob' G4 (own_apart ob' hpl)
          sep := fun k hk h2 => by
            rcases hw k hk with h3 | h3
            · exact h.sep k h3 h2
            · have := own_lt' h.ob h2
              omega
          low := (h.low.grown hg h.low.size (fun k hk => by have := own_ge h.ol hk; omega)).setCell (p := ⟨pl, 7, none⟩) hp3 v'
          ne := h.ne, pl3 := h.pl3, pb3 := h.pb3, plB := h.plB, pbB := h.pbB
          BW := Nat.le_trans hB (Nat.le_trans hg.size G4.size)
          ll := fun p hp => by
            rcases List.mem_append.1 hp with hp | hp
            · exact h.ll p hp
            · rw [List.mem_singleton.1 hp]; exact hq
          lb := h.lb }
theorem row_lt {w : World} {g : Nat} {o : Obj} (h : w.heap[g]? = some o) : g < w.heap.size := by
  rcases Nat.lt_or_ge g w.heap.size with h1 | h1
  · exact h1
  · rw [Array.getElem?_eq_none h1] at h; cases h
/-- 'append([]Rule{}, rules...)'. -/
theorem append_all (V : World) {p0 B F : Nat} {vb : Value} {qs : List Rq} (h0 : V.heap[p0]? = some (.cells #[] 76 (0, 0))) (hF : F ≤ p0) (ho : V.ownsRow B 76 2 vb qs.length (rflat qs)) (hl : qs.length ≤ 100000) :
    ∃ v' V', (Builtin.append_ #[36, 36] 36 #[.slice (some ⟨p0, 0, none⟩) 0 0, vb]).run Try.prog V = .ok v' V' ∧ V'.ownsRow F 76 2 v' qs.length (rflat qs) ∧ V.grownBy V' (some p0) := by
  obtain ⟨ir, hir, hir0, hir1, hir2⟩ := info_parts info_rule
  have hlt : p0 < V.heap.size := by
    rcases Nat.lt_or_ge p0 V.heap.size with h1 | h1
    · exact h1
    · rw [Array.getElem?_eq_none h1] at h0; cases h0
  have O0 : V.ownsRow F 76 2 (.slice (some ⟨p0, 0, none⟩) 0 0) 0 [] := ⟨rfl, .inr ⟨p0, 0, #[], rfl, hF, h0, Nat.le_refl _, by unfold maxLen; omega, rfl, rfl⟩⟩
  rcases ho.2 with ⟨rfl, hn⟩ | ⟨g, cap, cur, rfl, hB, hh, hnc, hcm, hcs, hx⟩
  · have hq : qs = [] := List.length_eq_zero_iff.1 hn
    subst hq
    exact ⟨_, _, run_append_owned_none V F _ _ 76 ir 2 Try.underlying36 hir _ 0 [] O0, O0, World.grownBy.refl _ _⟩
  · obtain ⟨v', V', h1, h2, h3, _⟩ := run_append_own (P := Try.prog) V F 36 36 76 ir (.agg #[.string ByteArray.empty, .slice none 0 0]) 2 40 Try.underlying36 hir hir0 hir1 hir2 rfl (by decide) _ 0 [] O0 ⟨g, 0, none⟩ qs.length cap (rflat qs) (rflat_len qs) (fun j u hu => by
      rw [Addr.add_lit, Nat.zero_add]
      refine ((Cells.of_row hh).at_ j).trans ?_
      rw [← hx] at hu
      rcases Nat.lt_or_ge j (qs.length * 2) with h4 | h4
      · rwa [List.getElem?_take_of_lt h4] at hu
      · rw [List.getElem?_take_eq_none h4] at hu; cases hu) (rflat_one qs) (by unfold maxLen; omega) (by omega) (by omega)
    rw [Nat.zero_add, List.nil_append] at h2
    exact ⟨v', V', h1, h2, h3⟩
end Go.Proofs.Ytmfmpkihmadjmaa
