/- A family that Family makes is valid. -/
import Derived.Test.YtmfmpkihmadjmaaVal
namespace Go.Proofs.Ytmfmpkihmadjmaa
open Go.RowKit Go.Shelf
theorem flat_at {α : Type} {g : α → List Value} {m : Nat} (hg : ∀ q, (g q).length = m) : ∀ (l : List α) (k : Nat) (q : α), l[k]? = some q → ∀ i, i < m → (l.flatMap g)[k * m + i]? = (g q)[i]?
  | [], k, q, h, _, _ => by simp at h
  | a :: l, 0, q, h, i, hi => by
    injection h with h
    subst h
    rw [List.flatMap_cons, Nat.zero_mul, Nat.zero_add, List.getElem?_append_left (by rw [hg]; exact hi)]
  | a :: l, k + 1, q, h, i, hi => by
    rw [List.getElem?_cons_succ] at h
    rw [List.flatMap_cons, List.getElem?_append_right (by rw [hg, Nat.succ_mul]; omega), hg, show (k + 1) * m + i - m = k * m + i by rw [Nat.succ_mul]; omega]
    exact flat_at hg l k q h i hi
theorem flat_len {α : Type} {g : α → List Value} {m : Nat} (hg : ∀ q, (g q).length = m) : ∀ l : List α, (l.flatMap g).length = l.length * m
  | [] => by simp
  | a :: l => by rw [List.flatMap_cons, List.length_append, hg, flat_len hg l, List.length_cons, Nat.succ_mul]; omega
/-- A guard, and an override, with the place of their literals. -/
abbrev Gq := (Nat × List (Nat × Bool)) × Option Addr × Nat
abbrev Vq := Ov × Option Addr × Nat
def gcell (q : Gq) : List Value := [.int .i64 (q.1.1 : Nat), .slice q.2.1 q.1.2.length q.2.2]
def vcell (q : Vq) : List Value := [.slice q.2.1 q.1.all.length q.2.2, .int .i64 (q.1.dim : Nat), .string q.1.nw.nm, .int .i64 q.1.nw.no, .int .i64 q.1.nw.lo, .int .i64 q.1.nw.up]
def gflat (l : List Gq) : List Value := l.flatMap gcell
def vflat (l : List Vq) : List Value := l.flatMap vcell
theorem gcell_len (q : Gq) : (gcell q).length = 2 := rfl
theorem vcell_len (q : Vq) : (vcell q).length = 6 := rfl
theorem gflat_app (l : List Gq) (q : Gq) : gflat (l ++ [q]) = gflat l ++ gcell q := by unfold gflat; rw [List.flatMap_append]; simp
theorem vflat_app (l : List Vq) (q : Vq) : vflat (l ++ [q]) = vflat l ++ vcell q := by unfold vflat; rw [List.flatMap_append]; simp
theorem gcell_one (q : Gq) : ∀ v ∈ gcell q, v.oneCell' = true := fun v hv => by
  simp [gcell] at hv
  rcases hv with rfl | rfl <;> rfl
theorem vcell_one (q : Vq) : ∀ v ∈ vcell q, v.oneCell' = true := fun v hv => by
  simp [vcell] at hv
  rcases hv with rfl | rfl | rfl | rfl | rfl | rfl <;> rfl
theorem GuardL.of_own {w : World} {B c n : Nat} {T : TypeId} {A : Option Addr} {qs : List Gq} (h : w.ownsRow B T 2 (.slice A n c) n (gflat qs)) (hq : ∀ q ∈ qs, LitL w q.2.1 (lc q.1.2)) : GuardL w A (qs.map (·.1)) := by
  obtain ⟨A', c', e, _, _, _, hx⟩ := own_row h
  injection e with e1 e2 e3
  subst e1
  intro k g hk
  rw [List.getElem?_map] at hk
  obtain ⟨q, hkq, rfl⟩ := Option.map_eq_some_iff.1 hk
  have f0 := flat_at gcell_len qs k q hkq 0 (by decide)
  have f1 := flat_at gcell_len qs k q hkq 1 (by decide)
  obtain ⟨b, hA, _, hlt, hc0⟩ := hx _ _ f0
  obtain ⟨b', hA', _, _, hc1⟩ := hx _ _ f1
  have hb : b' = b := by rw [hA] at hA'; injection hA' with hA'; injection hA' with hA'; exact hA'.symm
  subst hb
  exact ⟨b', 0, q.2.1, q.2.2, hA, hlt, by rw [Nat.zero_add]; exact hc0, by rw [Nat.zero_add]; exact hc1, hq q (List.mem_of_getElem? hkq)⟩
theorem OverL.of_own {w : World} {B c n : Nat} {T : TypeId} {A : Option Addr} {qs : List Vq} (h : w.ownsRow B T 6 (.slice A n c) n (vflat qs)) (hq : ∀ q ∈ qs, LitL w q.2.1 (lc q.1.all)) : OverL w A (qs.map (·.1)) := by
  obtain ⟨A', c', e, _, _, _, hx⟩ := own_row h
  injection e with e1 e2 e3
  subst e1
  intro k g hk
  rw [List.getElem?_map] at hk
  obtain ⟨q, hkq, rfl⟩ := Option.map_eq_some_iff.1 hk
  have F : ∀ i u, i < 6 → (vcell q)[i]? = some u → ∃ b, A = some ⟨b, 0, none⟩ ∧ b < w.heap.size ∧ w.cell? ⟨b, k * 6 + i, none⟩ = some u := fun i u hi hu => by
    obtain ⟨b, hA, _, hlt, hc⟩ := hx _ _ ((flat_at vcell_len qs k q hkq i hi).trans hu)
    exact ⟨b, hA, hlt, hc⟩
  obtain ⟨b, hA, hlt, c0⟩ := F 0 _ (by decide) rfl
  have F : ∀ i u, i < 6 → (vcell q)[i]? = some u → w.cell? ⟨b, 0 + k * 6 + i, none⟩ = some u := fun i u hi hu => by
    obtain ⟨b', hA', _, hc⟩ := F i u hi hu
    have hb : b' = b := by rw [hA] at hA'; injection hA' with hA'; injection hA' with hA'; exact hA'.symm
    rw [Nat.zero_add, ← hb]
    exact hc
  exact ⟨b, 0, q.2.1, q.2.2, hA, hlt, F 0 _ (by decide) rfl, F 1 _ (by decide) rfl, F 2 _ (by decide) rfl, F 3 _ (by decide) rfl, F 4 _ (by decide) rfl, F 5 _ (by decide) rfl, hq q (List.mem_of_getElem? hkq)⟩
/-- The guards and the overrides of a described family on the plain product. -/
def famG (n : Nat) (ks : List (List Int)) : List (Nat × List (Nat × Bool)) := (List.range (min ks.length 4)).map fun i => (i % 3, decN n (ks.getD i []))
def dimN (i : Nat) : ByteArray := ⟨#[(100 + i % 2).toUInt8]⟩
def famV (n : Nat) (ks : List (List Int)) : List Ov := (List.range (min ks.length 4)).map fun i => ⟨decN n (ks.getD i []), i % 2, ⟨dimN i, 100 + i, -1, 1⟩⟩
/-- The family as a value. -/
def famF (I : Option Addr) (ic : Nat) (J OA RA GA VA : Option Addr) (n oc rn rc gn gc vn vc : Nat) : Fm := ⟨{ data := #[98, 97, 115, 101] }, none, I, J, none, none, OA, RA, GA, VA, 0, 0, 3, ic, 2, 2, 0, 0, 0, 0, n, oc, rn, rc, gn, gc, vn, vc⟩
theorem dim_at (i : Nat) : ∃ d, plainD[i % 2]? = some d ∧ dimN i = d.nm := by
  have h : i % 2 = 0 ∨ i % 2 = 1 := by omega
  unfold dimN
  rcases h with h | h <;> rw [h] <;> exact ⟨_, rfl, rfl⟩
theorem fam_ok {x : World} {B : Nat} {vO vR vG vV : Value} {qr : List Rq} {gq : List Gq} {vq : List Vq} {ls : List Lq} {n : Nat} {kr kg kv : List (List Int)} {I J : Option Addr} {ic : Nat}
    (hO : x.ownsRow B 9 1 vO (famO n).length (strs (famO n))) (hR : x.ownsRow B 76 2 vR qr.length (rflat qr)) (hG : x.ownsRow B 88 2 vG gq.length (gflat gq)) (hV : x.ownsRow B 92 6 vV vq.length (vflat vq))
    (hL : ∀ q ∈ ls, x.ownsRow B 68 2 (.slice q.2.1 q.1.length q.2.2) q.1.length (litV q.1)) (hn : n ≤ 6) (hr : qr.map (·.1) = famR n kr) (hg : gq.map (·.1) = famG n kg) (hv : vq.map (·.1) = famV n kv)
    (l1 : ∀ q ∈ qr, (q.1.2, q.2.1, q.2.2) ∈ ls) (l2 : ∀ q ∈ gq, (q.1.2, q.2.1, q.2.2) ∈ ls) (l3 : ∀ q ∈ vq, (q.1.all, q.2.1, q.2.2) ∈ ls) (hD : DimL x J plainD) :
    ∃ OA oc RA rc GA gc VA vc, vO = .slice OA n oc ∧ vR = .slice RA (famR n kr).length rc ∧ vG = .slice GA (famG n kg).length gc ∧ vV = .slice VA (famV n kv).length vc ∧
      FamOK x (famF I ic J OA RA GA VA n oc (famR n kr).length rc (famG n kg).length gc (famV n kv).length vc) (famO n) (famR n kr) (famG n kg) (famV n kv) plainD := by
  have hlits : ∀ q ∈ ls, LitL x q.2.1 (lc q.1) := fun q hq => by
    obtain ⟨A, c, e, hl⟩ := own_lits (hL q hq)
    injection e with e1 e2 e3
    rw [e1]; exact hl
  have nO : (famO n).length = n := by unfold famO; simp
  have nR : qr.length = (famR n kr).length := by rw [← hr, List.length_map]
  have nG : gq.length = (famG n kg).length := by rw [← hg, List.length_map]
  have nV : vq.length = (famV n kv).length := by rw [← hv, List.length_map]
  obtain ⟨OA, oc, rfl, hOL, _⟩ := own_strs hO
  obtain ⟨RA, rc, rfl, _⟩ := own_row hR
  obtain ⟨GA, gc, rfl, _⟩ := own_row hG
  obtain ⟨VA, vc, rfl, _⟩ := own_row hV
  refine ⟨OA, oc, RA, rc, GA, gc, VA, vc, by rw [nO], by rw [nR], by rw [nG], by rw [nV], ?_⟩
  have q1 := famO_ok hn
  have q2 := famR_ok n kr hn
  exact {
    osL := hOL, osl := nO, n12 := by show n ≤ 12; omega, osn := q1.1, oso := q1.2
    rsL := by
      have := RuleL.of_own hR (fun q hq => hlits _ (l1 q hq))
      rwa [hr] at this
    rsl := rfl
    r48 := by show (famR n kr).length ≤ 48; unfold famR; rw [List.length_map, List.length_range]; omega
    rsn := q2.1, rsd := q2.2
    gsL := by
      have := GuardL.of_own hG (fun q hq => hlits _ (l2 q hq))
      rwa [hg] at this
    gsl := rfl
    g48 := by show (famG n kg).length ≤ 48; unfold famG; rw [List.length_map, List.length_range]; omega
    gsn := fun g hg => by
      unfold famG at hg
      obtain ⟨i, _, rfl⟩ := List.mem_map.1 hg
      exact ⟨Nat.mod_lt _ (by decide), by have := decN_len n (kg.getD i []); show (decN n (kg.getD i [])).length ≤ 12; omega, decN_ok _ _⟩
    vsL := by
      have := OverL.of_own hV (fun q hq => hlits _ (l3 q hq))
      rwa [hv] at this
    vsl := rfl
    v48 := by show (famV n kv).length ≤ 48; unfold famV; rw [List.length_map, List.length_range]; omega
    vsn := fun v hv => by
      unfold famV at hv
      obtain ⟨i, _, rfl⟩ := List.mem_map.1 hv
      exact ⟨by have := decN_len n (kv.getD i []); show (decN n (kv.getD i [])).length ≤ 12; omega, decN_ok _ _, dim_at i⟩
    dsL := hD, dsl := rfl, dn6 := by show 2 ≤ 1000; decide, in6 := by show 3 ≤ 1000; decide }
/-- What of a family's memory a call owns. -/
def FamOwn (w : World) (B : Nat) (OA : Option Addr) (oc : Nat) (RA : Option Addr) (rc : Nat) (os : List ByteArray) (rs : List (ByteArray × List (Nat × Bool))) : Prop :=
  w.ownsRow B 9 1 (.slice OA os.length oc) os.length (strs os) ∧ ∃ qr : List Rq, qr.map (·.1) = rs ∧ w.ownsRow B 76 2 (.slice RA rs.length rc) rs.length (rflat qr) ∧ ∀ q ∈ qr, w.ownsRow B 68 2 (.slice q.2.1 q.1.2.length q.2.2) q.1.2.length (litV q.1.2)
theorem FamOwn.keep {w x : World} {B : Nat} {OA : Option Addr} {oc : Nat} {RA : Option Addr} {rc : Nat} {os : List ByteArray} {rs : List (ByteArray × List (Nat × Bool))} (h : FamOwn w B OA oc RA rc os rs) (hb : Below w.heap.size w x) : FamOwn x B OA oc RA rc os rs :=
  let ⟨h1, qr, h2, h3, h4⟩ := h
  ⟨own_keep h1 hb, qr, h2, own_keep h3 hb, fun q hq => own_keep (h4 q hq) hb⟩
theorem own_set {w : World} {B sz n c g : Nat} {e : TypeId} {xs : List Value} (h : w.ownsRow B e sz (.slice (some ⟨g, 0, none⟩) n c) n xs) (i : Nat) (u : Value) : (w.setCell ⟨g, i, none⟩ u).ownsRow B e sz (.slice (some ⟨g, 0, none⟩) n c) n (xs.set i u) := by
  refine ⟨by rw [List.length_set]; exact h.1, ?_⟩
  rcases h.2 with ⟨h1, h2⟩ | ⟨g', cap, cur, hv, hB, hh, h1, h2, h3, h4⟩
  · cases h1
  · injection hv with e1 e2 e3
    injection e1 with e1
    injection e1 with e1
    subst e1
    subst e3
    refine .inr ⟨g, c, cur.setIfInBounds i u, rfl, hB, heap_setCell_same w g i cur e u hh, h1, h2, by simpa using h3, ?_⟩
    rw [← h4]
    simp [Array.toList_setIfInBounds, List.take_set]
theorem rflat_set : ∀ (qs : List Rq) (i : Nat) (q : Rq) (l : List (Nat × Bool)) (A : Option Addr) (c : Nat), qs[i]? = some q → (rflat qs).set (i * 2 + 1) (.slice A l.length c) = rflat (qs.set i ((q.1.1, l), A, c))
  | [], i, q, l, A, c, h => by simp at h
  | p :: qs, 0, q, l, A, c, h => by injection h with h; subst h; rfl
  | p :: qs, i + 1, q, l, A, c, h => by
    rw [List.getElem?_cons_succ] at h
    rw [List.set_cons_succ, rflat_cons, rflat_cons, show (i + 1) * 2 + 1 = (i * 2 + 1) + 1 + 1 by omega, List.set_cons_succ, List.set_cons_succ, rflat_set qs i q l A c h]
/-- All that a family's slices own. -/
def FamMem (w : World) (B : Nat) (f : Fm) (os : List ByteArray) (rs : List (ByteArray × List (Nat × Bool))) (gs : List (Nat × List (Nat × Bool))) (vs : List Ov) : Prop :=
  ∃ (qr : List Rq) (gq : List Gq) (vq : List Vq), qr.map (·.1) = rs ∧ gq.map (·.1) = gs ∧ vq.map (·.1) = vs ∧ w.ownsRow B 9 1 (.slice f.OA os.length f.oc) os.length (strs os) ∧ w.ownsRow B 76 2 (.slice f.RA rs.length f.rc) rs.length (rflat qr) ∧
    w.ownsRow B 88 2 (.slice f.GA gs.length f.gc) gs.length (gflat gq) ∧ w.ownsRow B 92 6 (.slice f.VA vs.length f.vc) vs.length (vflat vq) ∧
    (∀ q ∈ qr, w.ownsRow B 68 2 (.slice q.2.1 q.1.2.length q.2.2) q.1.2.length (litV q.1.2)) ∧ (∀ q ∈ gq, w.ownsRow B 68 2 (.slice q.2.1 q.1.2.length q.2.2) q.1.2.length (litV q.1.2)) ∧ ∀ q ∈ vq, w.ownsRow B 68 2 (.slice q.2.1 q.1.all.length q.2.2) q.1.all.length (litV q.1.all)
theorem lit_own {w : World} {B : Nat} {A : Option Addr} {c : Nat} {l : List (Nat × Bool)} (h : w.ownsRow B 68 2 (.slice A l.length c) l.length (litV l)) : LitL w A (lc l) := by
  obtain ⟨A', c', e, hl⟩ := own_lits h
  injection e with e1 e2 e3
  rw [e1]; exact hl
/-- A family stays valid where a block below what it owns is written. -/
theorem FamOK.other {w x : World} {f : Fm} {B p : Nat} {os : List ByteArray} {rs : List (ByteArray × List (Nat × Bool))} {gs : List (Nat × List (Nat × Bool))} {vs : List Ov} {ds : List Dm} (h : FamOK w f os rs gs vs ds) (hm : FamMem w B f os rs gs vs) (G : w.grownBy x (some p)) (hp : p < B) (hJ : ∀ b o t, f.DA = some ⟨b, o, t⟩ → b ≠ p) : FamOK x f os rs gs vs ds := by
  obtain ⟨qr, gq, vq, e1, e2, e3, h1, h2, h3, h4, l1, l2, l3⟩ := hm
  have k {e sz n : Nat} {v : Value} {xs : List Value} (h : w.ownsRow B e sz v n xs) : x.ownsRow B e sz v n xs := own_grown h G (own_apart h hp)
  obtain ⟨OA', oc', e, hOL, _⟩ := own_strs (k h1)
  injection e with e
  exact { h with
    osL := by rw [e]; exact hOL
    rsL := by
      have := RuleL.of_own (k h2) (fun q hq => lit_own (k (l1 q hq)))
      rwa [e1] at this
    gsL := by
      have := GuardL.of_own (k h3) (fun q hq => lit_own (k (l2 q hq)))
      rwa [e2] at this
    vsL := by
      have := OverL.of_own (k h4) (fun q hq => lit_own (k (l3 q hq)))
      rwa [e3] at this
    dsL := fun i d hk => by
      obtain ⟨b, o, e, hb, c0, c1, c2, c3⟩ := h.dsL i d hk
      have e3 := fun j => World.cell?_of_block (a := ⟨b, j, none⟩) (G.block b hb (fun e2 => hJ b o none e (by injection e2)))
      exact ⟨b, o, e, Nat.lt_of_lt_of_le hb G.size, (e3 _).trans c0, (e3 _).trans c1, (e3 _).trans c2, (e3 _).trans c3⟩ }
/-- A rule's literals are written anew. -/
theorem fam_write {w : World} {f : Fm} {B : Nat} {os : List ByteArray} {rs : List (ByteArray × List (Nat × Bool))} {ds : List Dm} (h : FamOK w f os rs [] [] ds) (ho : FamOwn w B f.OA f.oc f.RA f.rc os rs) (hD : ∀ b o t, f.DA = some ⟨b, o, t⟩ → b < B) {i : Nat} {r : ByteArray × List (Nat × Bool)} (hi : rs[i]? = some r) {l : List (Nat × Bool)} {A : Option Addr} {c : Nat}
    (hl : ∀ g, f.RA = some ⟨g, 0, none⟩ → LitL (w.setCell ⟨g, i * 2 + 1, none⟩ (.slice A l.length c)) A (lc l)) (hl12 : l.length ≤ 12) (hlc : chE f.n none (lc l) = 0) :
    ∃ g, f.RA = some ⟨g, 0, none⟩ ∧ B ≤ g ∧ (∃ u, w.cell? ⟨g, i * 2 + 1, none⟩ = some u) ∧ w.frozen? ⟨g, i * 2 + 1, none⟩ = false ∧ FamOK (w.setCell ⟨g, i * 2 + 1, none⟩ (.slice A l.length c)) f os (rs.set i (r.1, l)) [] [] ds := by
  obtain ⟨h1, qr, h2, h3, h4⟩ := ho
  have hlen : i < rs.length := by
    rcases Nat.lt_or_ge i rs.length with h0 | h0
    · exact h0
    · rw [List.getElem?_eq_none h0] at hi; cases hi
  have hq : ∃ q, qr[i]? = some q ∧ q.1 = r := by
    rw [← h2, List.getElem?_map] at hi
    exact Option.map_eq_some_iff.1 hi
  obtain ⟨q, hq, hqr⟩ := hq
  have h3' := h3
  rcases h3'.2 with ⟨_, h0⟩ | ⟨g, cap, cur, hv, hB, hh, _, _, hsz, htk⟩
  · omega
  injection hv with e1 e2 e3
  have hRA : f.RA = some ⟨g, 0, none⟩ := e1
  rw [hRA] at h3
  have CU := Cells.of_row hh
  have hxl : (rflat qr).length = qr.length * 2 := rflat_len qr
  have hql : qr.length = rs.length := by rw [← h2, List.length_map]
  have hcu : ∃ u, w.cell? ⟨g, i * 2 + 1, none⟩ = some u := by
    refine ⟨_, cell_of_take CU htk (List.getElem?_eq_getElem (by rw [hxl]; omega))⟩
  have hL := hl g hRA
  have G := grown_cells g [.slice A l.length c] (i * 2 + 1) w
  have eS : w.setCells g (i * 2 + 1) [.slice A l.length c] = w.setCell ⟨g, i * 2 + 1, none⟩ (.slice A l.length c) := rfl
  rw [eS] at G
  have hR2 := own_set h3 (i * 2 + 1) (.slice A l.length c)
  have hRS := rflat_set qr i q l A c hq
  refine ⟨g, hRA, hB, hcu, CU.fz _, ?_⟩
  obtain ⟨W, hW⟩ : ∃ u, w.setCell ⟨g, i * 2 + 1, none⟩ (.slice A l.length c) = u := ⟨_, rfl⟩
  rw [hW] at G hR2 hL ⊢
  rw [hRS] at hR2
  have hO2 := own_other h3 h1 (by decide) G
  have hQ2 : LitQ W (qr.set i ((q.1.1, l), A, c)) := fun p hp => by
    rcases List.mem_or_eq_of_mem_set hp with hp | hp
    · have := own_other h3 (h4 p hp) (by decide) G
      obtain ⟨A', c', e, hl'⟩ := own_lits this
      injection e with e1 e2 e3
      rw [e1]; exact hl'
    · rw [hp]; exact hL
  have hRL := RuleL.of_own (by rw [← hRA] at hR2; exact hR2) hQ2
  rw [List.map_set, h2] at hRL
  obtain ⟨OA', oc', e, hOL, _⟩ := own_strs hO2
  injection e with e1
  have hr1 : nameB r.1 := (h.rsn r (List.mem_of_getElem? hi)).1
  exact { h with
    osL := by rw [e1]; exact hOL
    rsL := by rw [← hqr]; exact hRL
    rsl := by rw [List.length_set]; exact h.rsl
    rsn := fun p hp => by
      rcases List.mem_or_eq_of_mem_set hp with hp | hp
      · exact h.rsn p hp
      · rw [hp]; exact ⟨hr1, hl12, hlc⟩
    rsd := by
      have : (rs.set i (r.1, l)).map (·.1) = rs.map (·.1) := by
        rw [List.map_set]
        refine List.ext_getElem? fun k => ?_
        by_cases hk : k = i
        · subst hk
          rw [List.getElem?_set_self (by rw [List.length_map]; exact hlen), List.getElem?_map, hi]; rfl
        · rw [List.getElem?_set_ne (fun e => hk e.symm)]
      rw [this]; exact h.rsd
    gsL := fun k p hk => by simp at hk
    vsL := fun k p hk => by simp at hk
    dsL := fun k d hk => by
      obtain ⟨b, o, e, hb, c0, c1, c2, c3⟩ := h.dsL k d hk
      have hne : b ≠ g := fun e2 => by have := hD b o none e; omega
      have e3 := fun j => World.cell?_of_block (a := ⟨b, j, none⟩) (G.block b hb (fun e2 => hne (by injection e2)))
      exact ⟨b, o, e, Nat.lt_of_lt_of_le hb G.size, (e3 _).trans c0, (e3 _).trans c1, (e3 _).trans c2, (e3 _).trans c3⟩ }
end Go.Proofs.Ytmfmpkihmadjmaa
