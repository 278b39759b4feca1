/- The state of a disk; a file's bytes turn; a new file. -/
import Derived.Test.YtbmogecnepgnaaaDh
namespace Go.Proofs.Ytbmogecnepgnaaa
open Go.RowKit Go.Maps
def runO (D : Mp) (l : List Opn) : Mp := l.foldl (fun D o => appO o D) D
def okA (D : Mp) : Opn → Prop
  | .ren a _ => Maps.has D (kS a) = true
  | _ => True
def okO : Mp → List Opn → Prop
  | _, [] => True
  | D, o :: l => okA D o ∧ okO (appO o D) l
def okN : Opn → Prop
  | .cre s _ => s.size ≤ maxLen
  | .ren a b => a.size ≤ maxLen ∧ b.size ≤ maxLen
  | .rem a => a.size ≤ maxLen
theorem runO_snoc (D : Mp) (l : List Opn) (o : Opn) : runO D (l ++ [o]) = appO o (runO D l) := by unfold runO; rw [List.foldl_append]; rfl
theorem okO_snoc : ∀ {l : List Opn} {D : Mp} {o : Opn}, okO D l → okA (runO D l) o → okO D (l ++ [o])
  | [], _, _, _, h => ⟨h, trivial⟩
  | _ :: _, _, _, h, h2 => ⟨h.1, okO_snoc h.2 h2⟩
theorem Refs.del {F : List Fl} {D : Mp} (h : Refs F D) (k : Lit) : Refs F (D.del k) := fun k' hk => by
  by_cases e : k' = k
  · subst e; rw [has_del_same] at hk; cases hk
  · rw [has_del_other e] at hk; rw [atKey_del_other e]; exact h k' hk
theorem Refs.put {F : List Fl} {D : Mp} (h : Refs F D) (ht : Tidy D) {k : Lit} (hk : WideAt.IsKeyLit k) {f : Fl} (hf : f ∈ F) : Refs F (D.put k (pD f.b)) := fun k' hk' => by
  by_cases e : k' = k
  · subst e; exact ⟨f, hf, atKey_put_same ht.isMap hk _ _⟩
  · rw [has_put_other e] at hk'; rw [atKey_put_other e]; exact h k' hk'
theorem Refs.mono {F F' : List Fl} {D : Mp} (h : Refs F D) (hF : ∀ f ∈ F, ∃ f' ∈ F', f'.b = f.b) : Refs F' D := fun k hk => by
  obtain ⟨f, hf, he⟩ := h k hk
  obtain ⟨f', hf', e⟩ := hF f hf
  exact ⟨f', hf', by rw [e]; exact he⟩
theorem keyLit (s : ByteArray) : WideAt.IsKeyLit (kS s) := trivial
/-- What always holds of a disk's state. -/
structure DL (s : St) : Prop where
  t1 : Tidy s.D1
  t2 : Tidy s.D2
  r1 : Refs s.F s.D1
  r2 : Refs s.F s.D2
  fl : ∀ f ∈ s.F, f.bs.length ≤ 16777216 ∧ f.dur ≤ f.bs.length
  cl : s.cap ≤ 16777216
  ll : s.left ≤ 4611686018427387904
  ok : okO s.D2 s.ops
  run : runO s.D2 s.ops = s.D1
  onm : ∀ o ∈ s.ops, okN o
  ro : ∀ a b, Opn.cre a b ∈ s.ops → ∃ f ∈ s.F, f.b = b
theorem DL.cnt {s : St} (h : DL s) : DL (cntS s) := by
  unfold cntS
  split
  · split
    · exact { h with }
    · exact { h with ll := by have := h.ll; show s.left - 1 ≤ _; omega }
  · exact h
def updF (F : List Fl) (k : Nat) (g : Fl → Fl) : List Fl := F.map fun f => if f.b = k then g f else f
theorem updF_mem {F : List Fl} {k : Nat} {g : Fl → Fl} {f : Fl} (h : f ∈ updF F k g) : (f ∈ F ∧ f.b ≠ k) ∨ ∃ f0 ∈ F, f0.b = k ∧ f = g f0 := by
  unfold updF at h
  obtain ⟨f0, h0, rfl⟩ := List.mem_map.1 h
  by_cases e : f0.b = k
  · rw [if_pos e]; exact .inr ⟨f0, h0, e, rfl⟩
  · rw [if_neg e]; exact .inl ⟨h0, e⟩
theorem updF_in {F : List Fl} {k : Nat} {g : Fl → Fl} (hg : ∀ f, (g f).b = f.b) {f : Fl} (h : f ∈ F) : ∃ f' ∈ updF F k g, f'.b = f.b := by
  refine ⟨_, List.mem_map_of_mem h, ?_⟩
  by_cases e : f.b = k
  · rw [if_pos e, hg]
  · rw [if_neg e]
theorem updF_nod {F : List Fl} {k : Nat} {g : Fl → Fl} (hg : ∀ f, (g f).b = f.b) (h : F.Pairwise fun f g => f.b ≠ g.b) : (updF F k g).Pairwise fun f g => f.b ≠ g.b := by
  unfold updF
  refine List.pairwise_map.2 (h.imp fun {a b} hab => ?_)
  have e : ∀ f : Fl, (if f.b = k then g f else f).b = f.b := fun f => by split; exact hg f; rfl
  rw [e, e]; exact hab
theorem DL.file {s : St} (h : DL s) {k : Nat} {g : Fl → Fl} (hg : ∀ f, (g f).b = f.b) (hb : ∀ f ∈ s.F, f.b = k → (g f).bs.length ≤ 16777216 ∧ (g f).dur ≤ (g f).bs.length) : DL { s with F := updF s.F k g } :=
  { h with
    r1 := h.r1.mono fun f hf => updF_in hg hf
    r2 := h.r2.mono fun f hf => updF_in hg hf
    fl := fun f hf => by
      rcases updF_mem hf with ⟨h1, _⟩ | ⟨f0, h1, h2, rfl⟩
      · exact h.fl f h1
      · exact hb f0 h1 h2
    ro := fun a b hab => by
      obtain ⟨f, hf, e⟩ := h.ro a b hab
      obtain ⟨f', hf', e'⟩ := updF_in (k := k) hg hf
      exact ⟨f', hf', e'.trans e⟩ }
theorem DL.op {s : St} (h : DL s) {o : Opn} (ho : okA s.D1 o) (hn : okN o) (hr : ∀ a b, o = .cre a b → ∃ f ∈ s.F, f.b = b) : DL { s with D1 := appO o s.D1, ops := s.ops ++ [o] } :=
  { h with
    t1 := by
      cases o with
      | cre a b => exact h.t1.put (keyLit a) _
      | ren a b => exact (h.t1.del _).put (keyLit b) _
      | rem a => exact h.t1.del _
    r1 := by
      cases o with
      | cre a b =>
        obtain ⟨f, hf, rfl⟩ := hr a b rfl
        exact h.r1.put h.t1 (keyLit a) hf
      | ren a b =>
        obtain ⟨f, hf, e⟩ := h.r1 _ ho
        show Refs s.F ((s.D1.del (kS a)).put (kS b) (s.D1.atKey (kS a) zD))
        rw [e]
        exact (h.r1.del (kS a)).put (h.t1.del _) (keyLit b) hf
      | rem a => exact h.r1.del (kS a)
    ok := okO_snoc h.ok (by rw [h.run]; exact ho)
    run := by show runO s.D2 (s.ops ++ [o]) = _; rw [runO_snoc, h.run]
    onm := fun q hq => by
      rcases List.mem_append.1 hq with hq | hq
      · exact h.onm q hq
      · rw [List.mem_singleton.1 hq]; exact hn
    ro := fun a b hab => by
      rcases List.mem_append.1 hab with hq | hq
      · exact h.ro a b hq
      · exact hr a b (List.mem_singleton.1 hq).symm }
theorem DL.newF {s : St} (h : DL s) {f : Fl} (hf : f.bs.length ≤ 16777216 ∧ f.dur ≤ f.bs.length) : DL { s with F := s.F ++ [f] } :=
  { h with
    r1 := h.r1.mono fun g hg => ⟨g, List.mem_append_left _ hg, rfl⟩
    r2 := h.r2.mono fun g hg => ⟨g, List.mem_append_left _ hg, rfl⟩
    fl := fun g hg => by
      rcases List.mem_append.1 hg with hg | hg
      · exact h.fl g hg
      · rw [List.mem_singleton.1 hg]; exact hf
    ro := fun a b hab => by
      obtain ⟨g, hg, e⟩ := h.ro a b hab
      exact ⟨g, List.mem_append_left _ hg, e⟩ }
/-- A file's bytes turn, and its cell with them. -/
theorem DM.data {w w' : World} {B p : Nat} {m : Mem} {s : St} (h : DM w B p m s) {f : Fl} (hf : f ∈ s.F) {v' : Value} {bs' : List UInt8} (hg : w.grownBy w' (m.dv f.b).ownBlock) (hd : DataAt w' B v' bs') (hw : ∀ k, v'.ownBlock = some k → (m.dv f.b).ownBlock = some k ∨ w.heap.size ≤ k) :
    (w'.cell? ⟨f.b, 0, none⟩ = some (m.dv f.b) ∧ w'.frozen? ⟨f.b, 0, none⟩ = false) ∧ DM (w'.setCell ⟨f.b, 0, none⟩ v') B p { m with dv := fun k => if k = f.b then v' else m.dv k } { s with F := updF s.F f.b fun f => { f with bs := bs' } } ∧ Below B w (w'.setCell ⟨f.b, 0, none⟩ v') := by
  have hdv : ∀ j, (m.dv f.b).ownBlock = some j → ∃ us fz, w.heap[j]? = some (.cells us 5 fz) := fun j hj => (h.con.fl f hf).2.1.obj hj
  have hfb := (h.con.fl f hf).1
  have hfB := (h.con.fl f hf).2.2
  have keepF : ∀ {a : Nat} {o : Obj}, w.heap[a]? = some o → (∀ us fz, o ≠ .cells us 5 fz) → w'.heap[a]? = some o := fun {a o} ho hne => heap_stay ho hg (fun e => by
    obtain ⟨us, fz, h1⟩ := hdv a e
    rw [ho] at h1
    exact hne _ _ (Option.some.inj h1))
  have fb' := keepF hfb (fun _ _ e => by injection e with _ e; exact absurd e (by decide))
  have C := Cells.of_row fb'
  have g2 := grown_cells f.b [v'] 0 w'
  have e2 : w'.setCells f.b 0 [v'] = w'.setCell ⟨f.b, 0, none⟩ v' := rfl
  rw [e2] at g2
  have keep2 : ∀ {a : Nat} {o : Obj}, w.heap[a]? = some o → (∀ us fz, o ≠ .cells us 5 fz) → a ≠ f.b → (w'.setCell ⟨f.b, 0, none⟩ v').heap[a]? = some o := fun {a o} ho hne hab => heap_stay (keepF ho hne) g2 (fun e => by injection e with e; exact hab e.symm)
  have nefile : ∀ {a : Nat} {o : Obj}, w.heap[a]? = some o → (∀ us fz, o ≠ .cells us 81 fz) → a ≠ f.b := fun {a o} ho hne e => by
    rw [e, hfb] at ho
    exact hne _ _ (Option.some.inj ho).symm
  have hmap : ∀ {b n : Nat} {D : Mp}, w.ownsMap Try.prog 9 ptrE b n D → (w'.setCell ⟨f.b, 0, none⟩ v').ownsMap Try.prog 9 ptrE b n D := fun {b n D} hb => by
    obtain ⟨es, c, h1, h2⟩ := hb
    exact ⟨es, c, keep2 h1 (fun _ _ e => by cases e) (nefile h1 (fun _ _ e => by cases e)), h2⟩
  refine ⟨⟨C.at_ 0, C.fz 0⟩, ⟨keep2 h.obj (fun _ _ e => by injection e with _ e; exact absurd e (by decide)) (nefile h.obj (fun _ _ e => by injection e with _ e; exact absurd e (by decide))), h.low, ?_, (h.fr.grown hg (fun j e => by obtain ⟨us, fz, h1⟩ := hdv j e; exact ⟨_, h1, rfl⟩)).grown g2 (fun j e => by injection e with e; subst e; exact ⟨_, fb', rfl⟩)⟩, ?_⟩
  · exact {
      nm := hmap h.con.nm
      dm := hmap h.con.dm
      pd := by
        have h1 := own_stay h.con.pd hg (fun k hk e => by
          obtain ⟨cur, h2⟩ := own_obj h.con.pd hk
          obtain ⟨us, fz, h3⟩ := hdv k e.symm
          rw [h2] at h3; injection h3 with h3; injection h3 with _ h3; exact absurd h3 (by decide))
        exact own_grown h1 g2 (fun e => by
          obtain ⟨cur, h2⟩ := own_obj h.con.pd e
          rw [hfb] at h2; injection h2 with h2; injection h2 with _ h2; exact absurd h2 (by decide))
      fl := fun g hgm => by
        rcases updF_mem hgm with ⟨h1, hne⟩ | ⟨f0, h1, h2, rfl⟩
        · have h2 := h.con.fl g h1
          refine ⟨?_, ?_, h2.2.2⟩
          · show _ = some (Obj.cells #[(if g.b = f.b then v' else m.dv g.b), _] _ _)
            rw [if_neg hne]
            exact keep2 h2.1 (fun _ _ e => by injection e with _ e; exact absurd e (by decide)) hne
          · show DataAt _ _ (if g.b = f.b then v' else m.dv g.b) _
            rw [if_neg hne]
            exact (h2.2.1.stay hg (fun k hk e => h.con.sep g h1 f hf hne k hk e)).stay g2 (fun k hk e => by
              injection e with e
              obtain ⟨us, fz, h3⟩ := h2.2.1.obj hk
              rw [← e, hfb] at h3; injection h3 with h3; injection h3 with _ h3; exact absurd h3 (by decide))
        · have e0 : f0 = f := nod_eq h.con.nod h1 hf h2
          subst e0
          refine ⟨?_, ?_, hfB⟩
          · show _ = some (Obj.cells #[(if f0.b = f0.b then v' else m.dv f0.b), _] _ _)
            rw [if_pos rfl]
            exact heap_setF w' f0.b 0 _ _ _ v' fb'
          · show DataAt _ _ (if f0.b = f0.b then v' else m.dv f0.b) _
            rw [if_pos rfl]
            exact hd.stay g2 (fun k hk e => by
              injection e with e
              obtain ⟨us, fz, h3⟩ := hd.obj hk
              rw [← e, fb'] at h3; injection h3 with h3; injection h3 with _ h3; exact absurd h3 (by decide))
      nod := updF_nod (fun _ => rfl) h.con.nod
      sep := fun g1 hg1 g2 hg2 hne k hk => by
        have own : ∀ g ∈ updF s.F f.b (fun f => { f with bs := bs' }), ∃ g0 ∈ s.F, g0.b = g.b := fun g hg => by
          rcases updF_mem hg with ⟨h1, _⟩ | ⟨f0, h1, _, rfl⟩
          · exact ⟨g, h1, rfl⟩
          · exact ⟨f0, h1, rfl⟩
        obtain ⟨a, ha, hab⟩ := own g1 hg1
        obtain ⟨b, hb, hbb⟩ := own g2 hg2
        show ((if g2.b = f.b then v' else m.dv g2.b) : Value).ownBlock ≠ some k
        have hk : ((if g1.b = f.b then v' else m.dv g1.b) : Value).ownBlock = some k := hk
        have old : ∀ c ∈ s.F, ∀ j, (m.dv c.b).ownBlock = some j → j < w.heap.size := fun c hc j hj => by
          obtain ⟨us, fz, h3⟩ := (h.con.fl c hc).2.1.obj hj
          exact row_lt h3
        by_cases e1 : g1.b = f.b
        · have e2' : ¬ g2.b = f.b := fun e => hne (e1.trans e.symm)
          rw [if_pos e1] at hk
          rw [if_neg e2']
          intro h4
          rw [← hbb] at h4 e2'
          rcases hw k hk with h5 | h5
          · exact h.con.sep f hf b hb (fun e => e2' e.symm) k h5 h4
          · have := old b hb k h4; omega
        · rw [if_neg e1] at hk
          rw [← hab] at hk e1
          by_cases e2' : g2.b = f.b
          · rw [if_pos e2']
            intro h4
            rcases hw k h4 with h5 | h5
            · exact h.con.sep a ha f hf e1 k hk h5
            · have := old a ha k hk; omega
          · rw [if_neg e2', ← hbb]
            exact h.con.sep a ha b hb (by rw [hab, hbb]; exact hne) k hk
      mne := h.con.mne, bn := h.con.bn, bd := h.con.bd }
  · have hlt := row_lt hfb
    exact ((Below.refl B w).grown hg (by omega) (fun k hk => (h.con.fl f hf).2.1.ge hk)).setCell (p := ⟨f.b, 0, none⟩) hfB v'
/-- A new file lies there. -/
theorem DM.newF {w w' : World} {B p : Nat} {m : Mem} {s : St} (h : DM w B p m s) (hb : Below w.heap.size w w') {b : Nat} {v : Value} {bs : List UInt8} (hfile : w'.heap[b]? = some (.cells #[v, .int .i64 0] 81 (0, 0))) (hd : DataAt w' w.heap.size v bs) (hbn : w.heap.size ≤ b) :
    (∀ f ∈ s.F, f.b ≠ b) ∧ DM w' B p { m with dv := fun k => if k = b then v else m.dv k } { s with F := s.F ++ [⟨b, bs, 0⟩] } := by
  have hne : ∀ f ∈ s.F, f.b ≠ b := fun f hf e => by have := row_lt (h.con.fl f hf).1; omega
  have hlt := row_lt h.obj
  have hlow := h.low
  have h' := h.keep hb
  have hBd : DataAt w' B v bs := by
    rcases hd with h0 | ⟨g, cap, us, fz, e, hg, r⟩
    · exact .inl h0
    · exact .inr ⟨g, cap, us, fz, e, by omega, r⟩
  have old : ∀ c ∈ s.F, ∀ j, (m.dv c.b).ownBlock = some j → j < w.heap.size := fun c hc j hj => by
    obtain ⟨us, fz, h3⟩ := (h.con.fl c hc).2.1.obj hj
    exact row_lt h3
  refine ⟨hne, ⟨h'.obj, h.low, { h'.con with fl := fun f hf => ?_, nod := ?_, sep := fun f hf g hg hfg k hk => ?_ }, h'.fr⟩⟩
  · rcases List.mem_append.1 hf with hf | hf
    · have h1 := h'.con.fl f hf
      refine ⟨?_, ?_, h1.2.2⟩
      · show _ = some (Obj.cells #[(if f.b = b then v else m.dv f.b), _] _ _)
        rw [if_neg (hne f hf)]; exact h1.1
      · show DataAt _ _ (if f.b = b then v else m.dv f.b) _
        rw [if_neg (hne f hf)]; exact h1.2.1
    · rw [List.mem_singleton.1 hf]
      refine ⟨?_, ?_, by show B ≤ b; omega⟩
      · show _ = some (Obj.cells #[(if b = b then v else m.dv b), _] _ _)
        rw [if_pos rfl]; exact hfile
      · show DataAt _ _ (if b = b then v else m.dv b) _
        rw [if_pos rfl]; exact hBd
  · exact List.pairwise_append.2 ⟨h.con.nod, List.pairwise_singleton _ _, fun a ha c hc => by rw [List.mem_singleton.1 hc]; exact hne a ha⟩
  · show ((if g.b = b then v else m.dv g.b) : Value).ownBlock ≠ some k
    have hk : ((if f.b = b then v else m.dv f.b) : Value).ownBlock = some k := hk
    have new : ∀ j, v.ownBlock = some j → w.heap.size ≤ j := fun j hj => hd.ge hj
    have isold : ∀ c ∈ s.F ++ [(⟨b, bs, 0⟩ : Fl)], c.b ≠ b → c ∈ s.F := fun c hc hcb => by
      rcases List.mem_append.1 hc with hc | hc
      · exact hc
      · rw [List.mem_singleton.1 hc] at hcb; exact absurd rfl hcb
    by_cases e1 : f.b = b
    · rw [if_pos e1] at hk
      have e2 : ¬ g.b = b := fun e => hfg (e1.trans e.symm)
      rw [if_neg e2]
      intro h4
      have := old g (isold g hg e2) k h4
      have := new k hk
      omega
    · rw [if_neg e1] at hk
      by_cases e2 : g.b = b
      · rw [if_pos e2]
        intro h4
        have := old f (isold f hf e1) k hk
        have := new k h4
        omega
      · rw [if_neg e2]
        exact h.con.sep f (isold f hf e1) g (isold g hg e2) hfg k hk
end Go.Proofs.Ytbmogecnepgnaaa
