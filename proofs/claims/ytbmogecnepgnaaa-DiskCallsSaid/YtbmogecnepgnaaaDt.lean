/- Start: what its walk needs. -/
import Derived.Test.YtbmogecnepgnaaaDp
import Derived.Test.YtbmogecnepgnaaaDr
namespace Go.Proofs.Ytbmogecnepgnaaa
open Go.RowKit Go.Maps Go.Shelf
theorem keys_has {w : World} {b n : Nat} {D : Mp} (h : w.ownsMap Try.prog 9 ptrE b n D) {x : List UInt8} (hx : x ∈ strKeys D) : has D (.string x) = true ∧ x.length ≤ maxLen := by
  refine ⟨?_, strKeys_le h Try.underlying9 x hx⟩
  obtain ⟨es, rfl, hko⟩ := h.keysOf
  obtain ⟨p, hp, rfl⟩ := List.mem_map.1 hx
  obtain ⟨v, hv⟩ := hko p hp
  obtain ⟨y, _, hy, hl⟩ := Maps.keyOf_str Try.underlying9 hv
  rw [has_eq, List.any_eq_true]
  exact ⟨p, hp, by rw [hy]; simp [Lit.sameKey, strOf]⟩
theorem DM.durs {w w' : World} {B p : Nat} {m : Mem} {s : St} (h : DM w B p m s) {n' : Nat} {D' : Mp} (hg : w.grownBy w' (some m.md)) (ho : w'.ownsMap Try.prog 9 ptrE m.md n' D') : DM w' B p { m with n2 := n' } { s with D2 := D' } :=
  ⟨obj_stay h.obj hg (fun j e => by injection e with e; subst e; exact .inl (map_obj h.con.dm)), h.low, h.con.durs hg ho, h.fr.grown hg (fun j e => by injection e with e; subst e; obtain ⟨es, c, h1⟩ := map_obj h.con.dm; exact ⟨_, h1, rfl⟩)⟩
theorem DM.script {w w' : World} {B p : Nat} {m : Mem} {s : St} (h : DM w B p m s) {B' cb sb : Nat} {A : Option Addr} {n c : Nat} {l : List Int} {nx : Nat} (hs : ScA w B' cb sb A n c l nx) (hg : w.grownBy w' (some cb)) : DM w' B p m s :=
  ⟨obj_stay h.obj hg (fun j e => by injection e with e; subst e; exact .inr ⟨_, _, _, hs.cc, by decide⟩), h.low, h.con.other hs.cc hg (fun _ _ e => by cases e) (fun _ _ e => by injection e with _ e; exact absurd e (by decide)) (fun _ _ e => by injection e with _ e; exact absurd e (by decide)) (fun _ _ e => by injection e with _ e; exact absurd e (by decide)), h.fr.grown hg (fun j e => by injection e with e; subst e; exact ⟨_, hs.cc, rfl⟩)⟩
theorem Disk.of {w : World} {B p c : Nat} {m : Mem} {s : St} (h : DM w B p m s) (hl : DL s) (h1 : m.n1 ≤ c) (h2 : m.n2 ≤ c) (h3 : m.n2 + s.ops.length ≤ c) : Disk w B p s c := ⟨m, h, hl, h1, h2, h3⟩
theorem runO_ok {F : List Fl} : ∀ (l : List Opn) (D : Mp), Refs F D → Tidy D → okO D l → (∀ a b, Opn.cre a b ∈ l → ∃ f ∈ F, f.b = b) → Refs F (runO D l) ∧ Tidy (runO D l)
  | [], _, h, t, _, _ => ⟨h, t⟩
  | o :: l, D, h, t, k, r => by
    have hr : ∀ a b, Opn.cre a b ∈ l → ∃ f ∈ F, f.b = b := fun a b hab => r a b (List.mem_cons_of_mem _ hab)
    show Refs F (runO (appO o D) l) ∧ Tidy (runO (appO o D) l)
    cases o with
    | cre a b =>
      obtain ⟨f, hf, rfl⟩ := r a b List.mem_cons_self
      exact runO_ok l _ (h.put t (keyLit a) hf) (t.put (keyLit a) _) k.2 hr
    | ren a b =>
      obtain ⟨f, hf, e⟩ := h _ k.1
      refine runO_ok l _ ?_ ((t.del _).put (keyLit b) _) k.2 hr
      show Refs F ((D.del (kS a)).put (kS b) (D.atKey (kS a) zD))
      rw [e]
      exact (h.del (kS a)).put (t.del _) (keyLit b) hf
    | rem a => exact runO_ok l _ (h.del (kS a)) (t.del _) k.2 hr
theorem okO_take : ∀ (l : List Opn) (D : Mp) (k : Nat), okO D l → okO D (l.take k)
  | _, _, 0, _ => by rw [List.take_zero]; trivial
  | [], _, _ + 1, _ => trivial
  | _ :: l, _, k + 1, h => ⟨h.1, okO_take l _ k h.2⟩
theorem okO_at : ∀ (l : List Opn) (D : Mp) (j : Nat) (o : Opn), okO D l → l[j]? = some o → okA (runO D (l.take j)) o
  | [], _, _, _, _, h => by cases h
  | o' :: l, _, 0, o, h, e => by
    have : o' = o := by simpa using e
    subst this
    exact h.1
  | o' :: l, D, j + 1, o, h, e => okO_at l (appO o' D) j o h.2 (by simpa using e)
theorem runO_take {D : Mp} {l : List Opn} {j : Nat} {o : Opn} (h : l[j]? = some o) : runO D (l.take (j + 1)) = appO o (runO D (l.take j)) := by
  rw [List.take_add_one, h]
  exact runO_snoc D (l.take j) o
theorem failF_ok (l : List Int) (nx : Nat) (f : Fl) (h : f.dur ≤ f.bs.length) : (failF l nx f).bs.length ≤ f.bs.length ∧ (failF l nx f).dur = (failF l nx f).bs.length := by
  have hk : failK l nx f ≤ f.bs.length - f.dur := chN_le l nx _
  have hl : (failB l nx f).length = f.dur + failK l nx f := by
    unfold failB
    simp only
    split
    · rw [List.length_set, List.length_take]; omega
    · rw [List.length_take]; omega
  exact ⟨by show (failB l nx f).length ≤ _; omega, by show f.dur + failK l nx f = _; exact hl.symm⟩
/-- Power's failure at one name. -/
def stepF (l : List Int) (D : Mp) (st : List Fl × Nat) (n : List UInt8) : List Fl × Nat :=
  match st.1.find? fun f => f.b == blkOf (D.atKey (.string n) zD) with
  | some f => (updF st.1 f.b (failF l st.2), failX l st.2 f)
  | none => st
theorem stepF_at {l : List Int} {D : Mp} {F : List Fl} {nx : Nat} {n : List UInt8} {f : Fl} (hnod : F.Pairwise fun f g => f.b ≠ g.b) (hf : f ∈ F) (h : D.atKey (.string n) zD = pD f.b) : stepF l D (F, nx) n = (updF F f.b (failF l nx), failX l nx f) := by
  unfold stepF
  rw [h, blkOf_p]
  have : F.find? (fun g => g.b == f.b) = some f := by
    obtain ⟨g, hg⟩ : ∃ g, F.find? (fun g => g.b == f.b) = some g := by
      cases e : F.find? (fun g => g.b == f.b) with
      | some g => exact ⟨g, rfl⟩
      | none => exact absurd (List.find?_eq_none.1 e f hf) (by simp)
    rw [hg, nod_eq hnod (List.mem_of_find?_eq_some hg) hf (by simpa using List.find?_some hg)]
  rw [this]
/-- What a disk is behind a start. -/
def stD (s : St) (l : List Int) : Mp := runO s.D2 (s.ops.take (chN l 0 s.ops.length))
def stS (s : St) (l : List Int) (ss : List (List UInt8)) : St :=
  { s with D1 := stD s l, D2 := stD s l, ops := [], down := false, lim := false, left := 0, F := (ss.foldl (stepF l (stD s l)) (s.F, 1)).1 }
theorem two_sets {w : World} {p : Nat} {us : Array Value} {T : TypeId} {fz : Nat × Nat} (h : w.heap[p]? = some (.cells us T fz)) (i j : Nat) (u v : Value) : ((w.setCell ⟨p, i, none⟩ u).setCell ⟨p, j, none⟩ v).heap[p]? = some (.cells ((us.setIfInBounds i u).setIfInBounds j v) T fz) ∧ w.grownBy ((w.setCell ⟨p, i, none⟩ u).setCell ⟨p, j, none⟩ v) (some p) :=
  ⟨heap_setF _ p j _ _ _ v (heap_setF w p i _ _ _ u h), grown_trans (grown_cells p [u] i w) (grown_cells p [v] j (w.setCell ⟨p, i, none⟩ u))⟩
/-- The names are the durable ones now, and nothing is pending. -/
def obN (s : St) (m : Mem) (w : World) (p : Nat) : Prop := w.heap[p]? = some (.cells (objN s m) 71 (0, 0))
theorem DM.point {w : World} {B p : Nat} {m : Mem} {s : St} (h : DM w B p m s) :
    obN s m ((w.setCell ⟨p, 1, none⟩ (.map (some m.md))).setCell ⟨p, 3, none⟩ (.slice none 0 0)) p ∧ DC ((w.setCell ⟨p, 1, none⟩ (.map (some m.md))).setCell ⟨p, 3, none⟩ (.slice none 0 0)) B m s.D1 s.D2 s.ops s.F ∧ w.grownBy ((w.setCell ⟨p, 1, none⟩ (.map (some m.md))).setCell ⟨p, 3, none⟩ (.slice none 0 0)) (some p) ∧ Fr s.rd ((w.setCell ⟨p, 1, none⟩ (.map (some m.md))).setCell ⟨p, 3, none⟩ (.slice none 0 0)) := by
  have h2 := two_sets h.obj 1 3 (.map (some m.md)) (.slice none 0 0)
  exact ⟨h2.1, h.con.other h.obj h2.2 (fun _ _ e => by cases e) (fun _ _ e => by injection e with _ e; exact absurd e (by decide)) (fun _ _ e => by injection e with _ e; exact absurd e (by decide)) (fun _ _ e => by injection e with _ e; exact absurd e (by decide)), h2.2, h.fr.grown h2.2 (fun j e => by injection e with e; subst e; exact ⟨_, h.obj, rfl⟩)⟩
/-- The end of a start. -/
theorem DN.last {sv : Value} {sx : List Value} {w : World} {B p : Nat} {m : Mem} {s : St} (h : DN sv sx w B p m s) {q n : Nat} (ho : w.ownsMap Try.prog 9 ptrE q n s.D2) (hq : B ≤ q) (hne : m.md ≠ q) :
    ∃ m', DM ((((w.setCell ⟨p, 2, none⟩ (.map (some q))).setCell ⟨p, 4, none⟩ (.bool false)).setCell ⟨p, 5, none⟩ (.bool false)).setCell ⟨p, 6, none⟩ (.int .i64 0)) B p m' { s with D1 := s.D2, ops := [], down := false, lim := false, left := 0 } ∧ m'.n1 = m.n2 ∧ m'.n2 = n := by
  have h2 := two_sets h.obj 2 4 (.map (some q)) (.bool false)
  have h3 := two_sets h2.1 5 6 (.bool false) (.int .i64 0)
  have hg := grown_trans h2.2 h3.2
  have hc : DC w B { m with mn := m.md, md := q, n1 := m.n2, n2 := n, pv := .slice none 0 0 } s.D2 s.D2 [] s.F :=
    { h.con with nm := h.con.dm, dm := ho, pd := World.ownsRow_nil _ _ _ _, mne := hne, bn := h.con.bd, bd := hq }
  exact ⟨{ m with mn := m.md, md := q, n1 := m.n2, n2 := n, pv := .slice none 0 0 }, ⟨h3.1, h.low, hc.other h.obj hg (fun _ _ e => by cases e) (fun _ _ e => by injection e with _ e; exact absurd e (by decide)) (fun _ _ e => by injection e with _ e; exact absurd e (by decide)) (fun _ _ e => by injection e with _ e; exact absurd e (by decide)), h.fr.grown hg (fun j e => by injection e with e; subst e; exact ⟨_, h.obj, rfl⟩)⟩, rfl, rfl⟩
end Go.Proofs.Ytbmogecnepgnaaa
