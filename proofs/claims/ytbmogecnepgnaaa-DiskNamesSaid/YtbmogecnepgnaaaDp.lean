/- A file keeps a part of what is not durable. -/
import Derived.Test.YtbmogecnepgnaaaDo
namespace Go.Proofs.Ytbmogecnepgnaaa
open Go.RowKit Go.Maps
theorem DataAt.take {w : World} {B : Nat} {A : Option Addr} {n c : Nat} {bs : List UInt8} (h : DataAt w B (.slice A n c) bs) {k : Nat} (hk : k ≤ bs.length) : DataAt w B (.slice A k c) (bs.take k) := by
  have hl : (bs.take k).length = k := by rw [List.length_take]; omega
  rcases h with ⟨h, rfl⟩ | ⟨g, cap, us, fz, h, hb, hh, h1, h2, h3, h4, h5⟩
  · injection h with e1 e2 e3
    subst e1 e3
    have : k = 0 := by simpa using hk
    subst this
    exact .inl ⟨rfl, rfl⟩
  · injection h with e1 e2 e3
    subst e1 e3
    refine .inr ⟨g, c, us, fz, by rw [hl], hb, hh, by omega, h2, h3, h4, ?_⟩
    rw [hl]
    have e : us.toList.take k = (us.toList.take bs.length).take k := by rw [List.take_take, Nat.min_eq_left hk]
    rw [e, h5]
    unfold bV
    rw [List.map_take]
theorem DataAt.put {w : World} {B g c i : Nat} {bs : List UInt8} (h : DataAt w B (.slice (some ⟨g, 0, none⟩) bs.length c) bs) (b : UInt8) : DataAt (w.setCell ⟨g, i, none⟩ (.int .u8 b.toNat)) B (.slice (some ⟨g, 0, none⟩) (bs.set i b).length c) (bs.set i b) := by
  rcases h with ⟨h, _⟩ | ⟨g', cap, us, fz, h, hb, hh, h1, h2, h3, h4, h5⟩
  · cases h
  · injection h with e1 e2 e3
    injection e1 with e1
    injection e1 with e1
    subst e1 e3
    refine .inr ⟨g, c, us.setIfInBounds i (.int .u8 b.toNat), fz, rfl, hb, row_setF g _ fz [.int .u8 b.toNat] i _ _ hh, by rw [List.length_set]; exact h1, h2, by rw [Array.size_setIfInBounds]; exact h3, h4, ?_⟩
    rw [Array.toList_setIfInBounds, List.length_set, List.take_set, h5]
    unfold bV
    rw [List.map_set]
theorem below_g {B k : Nat} {w w' : World} (hg : w.grownBy w' (some k)) (hk : B ≤ k) (hlt : k < w.heap.size) : Below B w w' :=
  ⟨hg.os, hg.tape, hg.output, hg.size, fun j hj => by
    rcases Nat.lt_or_ge j w.heap.size with h1 | h1
    · exact hg.block j h1 (fun e => by injection e with e; omega)
    · omega⟩
abbrev objN (s : St) (m : Mem) : Array Value := #[.int .i64 (s.cap : Nat), .map (some m.md), .map (some m.md), .slice none 0 0, .bool s.down, .bool s.lim, .int .i64 (s.left : Nat)]
/-- A disk that starts: its names are the durable ones; what it led to lies there still. -/
structure DN (sv : Value) (sx : List Value) (w : World) (B p : Nat) (m : Mem) (s : St) : Prop where
  obj : w.heap[p]? = some (.cells (objN s m) 71 (0, 0))
  low : B ≤ p
  con : DC w B m s.D1 s.D2 s.ops s.F
  str : w.ownsRow B 9 1 sv sx.length sx
  fr : Fr s.rd w
section
variable {sv : Value} {sx : List Value}
theorem DN.keep {w w' : World} {B p : Nat} {m : Mem} {s : St} (h : DN sv sx w B p m s) (hb : Below w.heap.size w w') : DN sv sx w' B p m s := ⟨row_keep h.obj hb, h.low, h.con.keep hb, own_keep h.str hb, h.fr.keep hb⟩
theorem DN.data {w w' : World} {B p : Nat} {m : Mem} {s : St} (h : DN sv sx w B p m s) {f : Fl} (hf : f ∈ s.F) {v' : Value} {bs' : List UInt8} (hg : w.grownBy w' (m.dv f.b).ownBlock) (hd : DataAt w' B v' bs') (hw : ∀ k, v'.ownBlock = some k → (m.dv f.b).ownBlock = some k ∨ w.heap.size ≤ k) :
    (w'.cell? ⟨f.b, 0, none⟩ = some (m.dv f.b) ∧ w'.frozen? ⟨f.b, 0, none⟩ = false) ∧ DN sv sx (w'.setCell ⟨f.b, 0, none⟩ v') B p { m with dv := fun k => if k = f.b then v' else m.dv k } { s with F := updF s.F f.b fun f => { f with bs := bs' } } ∧ Below B w (w'.setCell ⟨f.b, 0, none⟩ v') := by
  have hdv : ∀ j, (m.dv f.b).ownBlock = some j → ∃ us fz, w.heap[j]? = some (.cells us 5 fz) := fun j hj => (h.con.fl f hf).2.1.obj hj
  have hfb := (h.con.fl f hf).1
  have hfB := (h.con.fl f hf).2.2
  have keepF : ∀ {a : Nat} {o : Obj}, w.heap[a]? = some o → (∀ us fz, o ≠ .cells us 5 fz) → w'.heap[a]? = some o := fun {a o} ho hne => heap_stay ho hg (fun e => by
    obtain ⟨us, fz, h1⟩ := hdv a e
    rw [ho] at h1
    exact hne _ _ (Option.some.inj h1))
  have fb' := keepF hfb (fun _ _ e => by injection e with _ e; exact absurd e (by decide))
  have C := Cells.of_row fb'
  have g2 := grown_cells f.b [v'] 0 w'
  have e2 : w'.setCells f.b 0 [v'] = w'.setCell ⟨f.b, 0, none⟩ v' := rfl
  rw [e2] at g2
  have keep2 : ∀ {a : Nat} {o : Obj}, w.heap[a]? = some o → (∀ us fz, o ≠ .cells us 5 fz) → a ≠ f.b → (w'.setCell ⟨f.b, 0, none⟩ v').heap[a]? = some o := fun {a o} ho hne hab => heap_stay (keepF ho hne) g2 (fun e => by injection e with e; exact hab e.symm)
  have nefile : ∀ {a : Nat} {o : Obj}, w.heap[a]? = some o → (∀ us fz, o ≠ .cells us 81 fz) → a ≠ f.b := fun {a o} ho hne e => by
    rw [e, hfb] at ho
    exact hne _ _ (Option.some.inj ho).symm
  have hmap : ∀ {b n : Nat} {D : Mp}, w.ownsMap Try.prog 9 ptrE b n D → (w'.setCell ⟨f.b, 0, none⟩ v').ownsMap Try.prog 9 ptrE b n D := fun {b n D} hb => by
    obtain ⟨es, c, h1, h2⟩ := hb
    exact ⟨es, c, keep2 h1 (fun _ _ e => by cases e) (nefile h1 (fun _ _ e => by cases e)), h2⟩
  refine ⟨⟨C.at_ 0, C.fz 0⟩, ⟨keep2 h.obj (fun _ _ e => by injection e with _ e; exact absurd e (by decide)) (nefile h.obj (fun _ _ e => by injection e with _ e; exact absurd e (by decide))), h.low, ?_, ?_, (h.fr.grown hg (fun j e => by obtain ⟨us, fz, h1⟩ := hdv j e; exact ⟨_, h1, rfl⟩)).grown g2 (fun j e => by injection e with e; subst e; exact ⟨_, fb', rfl⟩)⟩, ?_⟩
  · exact {
      nm := hmap h.con.nm
      dm := hmap h.con.dm
      pd := by
        have h1 := own_stay h.con.pd hg (fun k hk e => by
          obtain ⟨cur, h2⟩ := own_obj h.con.pd hk
          obtain ⟨us, fz, h3⟩ := hdv k e.symm
          rw [h2] at h3; injection h3 with h3; injection h3 with _ h3; exact absurd h3 (by decide))
        exact own_grown h1 g2 (fun e => by
          obtain ⟨cur, h2⟩ := own_obj h.con.pd e
          rw [hfb] at h2; injection h2 with h2; injection h2 with _ h2; exact absurd h2 (by decide))
      fl := fun g hgm => by
        rcases updF_mem hgm with ⟨h1, hne⟩ | ⟨f0, h1, h2, rfl⟩
        · have h2 := h.con.fl g h1
          refine ⟨?_, ?_, h2.2.2⟩
          · show _ = some (Obj.cells #[(if g.b = f.b then v' else m.dv g.b), _] _ _)
            rw [if_neg hne]
            exact keep2 h2.1 (fun _ _ e => by injection e with _ e; exact absurd e (by decide)) hne
          · show DataAt _ _ (if g.b = f.b then v' else m.dv g.b) _
            rw [if_neg hne]
            exact (h2.2.1.stay hg (fun k hk e => h.con.sep g h1 f hf hne k hk e)).stay g2 (fun k hk e => by
              injection e with e
              obtain ⟨us, fz, h3⟩ := h2.2.1.obj hk
              rw [← e, hfb] at h3; injection h3 with h3; injection h3 with _ h3; exact absurd h3 (by decide))
        · have e0 : f0 = f := nod_eq h.con.nod h1 hf h2
          subst e0
          refine ⟨?_, ?_, hfB⟩
          · show _ = some (Obj.cells #[(if f0.b = f0.b then v' else m.dv f0.b), _] _ _)
            rw [if_pos rfl]
            exact heap_setF w' f0.b 0 _ _ _ v' fb'
          · show DataAt _ _ (if f0.b = f0.b then v' else m.dv f0.b) _
            rw [if_pos rfl]
            exact hd.stay g2 (fun k hk e => by
              injection e with e
              obtain ⟨us, fz, h3⟩ := hd.obj hk
              rw [← e, fb'] at h3; injection h3 with h3; injection h3 with _ h3; exact absurd h3 (by decide))
      nod := updF_nod (fun _ => rfl) h.con.nod
      sep := fun g1 hg1 g2 hg2 hne k hk => by
        have own : ∀ g ∈ updF s.F f.b (fun f => { f with bs := bs' }), ∃ g0 ∈ s.F, g0.b = g.b := fun g hg => by
          rcases updF_mem hg with ⟨h1, _⟩ | ⟨f0, h1, _, rfl⟩
          · exact ⟨g, h1, rfl⟩
          · exact ⟨f0, h1, rfl⟩
        obtain ⟨a, ha, hab⟩ := own g1 hg1
        obtain ⟨b, hb, hbb⟩ := own g2 hg2
        show ((if g2.b = f.b then v' else m.dv g2.b) : Value).ownBlock ≠ some k
        have hk : ((if g1.b = f.b then v' else m.dv g1.b) : Value).ownBlock = some k := hk
        have old : ∀ c ∈ s.F, ∀ j, (m.dv c.b).ownBlock = some j → j < w.heap.size := fun c hc j hj => by
          obtain ⟨us, fz, h3⟩ := (h.con.fl c hc).2.1.obj hj
          exact row_lt h3
        by_cases e1 : g1.b = f.b
        · have e2' : ¬ g2.b = f.b := fun e => hne (e1.trans e.symm)
          rw [if_pos e1] at hk
          rw [if_neg e2']
          intro h4
          rw [← hbb] at h4 e2'
          rcases hw k hk with h5 | h5
          · exact h.con.sep f hf b hb (fun e => e2' e.symm) k h5 h4
          · have := old b hb k h4; omega
        · rw [if_neg e1] at hk
          rw [← hab] at hk e1
          by_cases e2' : g2.b = f.b
          · rw [if_pos e2']
            intro h4
            rcases hw k h4 with h5 | h5
            · exact h.con.sep a ha f hf e1 k hk h5
            · have := old a ha k hk; omega
          · rw [if_neg e2', ← hbb]
            exact h.con.sep a ha b hb (by rw [hab, hbb]; exact hne) k hk
      mne := h.con.mne, bn := h.con.bn, bd := h.con.bd }
  · have h1 := own_stay h.str hg (fun k hk e => by
      obtain ⟨cur, h2⟩ := own_obj h.str hk
      obtain ⟨us, fz, h3⟩ := hdv k e.symm
      rw [h2] at h3; injection h3 with h3; injection h3 with _ h3; exact absurd h3 (by decide))
    exact own_grown h1 g2 (fun e => by
      obtain ⟨cur, h2⟩ := own_obj h.str e
      rw [hfb] at h2; injection h2 with h2; injection h2 with _ h2; exact absurd h2 (by decide))
  · have hlt := row_lt hfb
    exact ((Below.refl B w).grown hg (by omega) (fun k hk => (h.con.fl f hf).2.1.ge hk)).setCell (p := ⟨f.b, 0, none⟩) hfB v'
theorem DN.dur {w : World} {B p : Nat} {m : Mem} {s : St} (h : DN sv sx w B p m s) {f : Fl} (hf : f ∈ s.F) (n : Nat) :
    (w.cell? ⟨f.b, 0, none⟩ = some (m.dv f.b) ∧ w.cell? ⟨f.b, 1, none⟩ = some (.int .i64 (f.dur : Nat)) ∧ w.frozen? ⟨f.b, 1, none⟩ = false) ∧ DN sv sx (w.setCell ⟨f.b, 1, none⟩ (.int .i64 (n : Nat))) B p m { s with F := updF s.F f.b fun f => { f with dur := n } } ∧ Below B w (w.setCell ⟨f.b, 1, none⟩ (.int .i64 (n : Nat))) := by
  have hfb := (h.con.fl f hf).1
  have hfB := (h.con.fl f hf).2.2
  have C := Cells.of_row hfb
  have g2 := grown_cells f.b [.int .i64 (n : Nat)] 1 w
  have e2 : w.setCells f.b 1 [.int .i64 (n : Nat)] = w.setCell ⟨f.b, 1, none⟩ (.int .i64 (n : Nat)) := rfl
  rw [e2] at g2
  have keep2 : ∀ {a : Nat} {o : Obj}, w.heap[a]? = some o → a ≠ f.b → (w.setCell ⟨f.b, 1, none⟩ (.int .i64 (n : Nat))).heap[a]? = some o := fun {a o} ho hab => heap_stay ho g2 (fun e => by injection e with e; exact hab e.symm)
  have nefile : ∀ {a : Nat} {o : Obj}, w.heap[a]? = some o → (∀ us fz, o ≠ .cells us 81 fz) → a ≠ f.b := fun {a o} ho hne e => by
    rw [e, hfb] at ho
    exact hne _ _ (Option.some.inj ho).symm
  have hmap : ∀ {b n' : Nat} {D : Mp}, w.ownsMap Try.prog 9 ptrE b n' D → (w.setCell ⟨f.b, 1, none⟩ (.int .i64 (n : Nat))).ownsMap Try.prog 9 ptrE b n' D := fun {b n D} hb => by
    obtain ⟨es, c, h1, h2⟩ := hb
    exact ⟨es, c, keep2 h1 (nefile h1 (fun _ _ e => by cases e)), h2⟩
  have hdat : ∀ g ∈ s.F, DataAt (w.setCell ⟨f.b, 1, none⟩ (.int .i64 (n : Nat))) B (m.dv g.b) g.bs := fun g hg => (h.con.fl g hg).2.1.stay g2 (fun k hk e => by
    injection e with e
    obtain ⟨us, fz, h3⟩ := (h.con.fl g hg).2.1.obj hk
    rw [← e, hfb] at h3; injection h3 with h3; injection h3 with _ h3; exact absurd h3 (by decide))
  refine ⟨⟨C.at_ 0, C.at_ 1, C.fz 1⟩, ⟨keep2 h.obj (nefile h.obj (fun _ _ e => by injection e with _ e; exact absurd e (by decide))), h.low, ?_, own_grown h.str g2 (fun e => by
    obtain ⟨cur, h2⟩ := own_obj h.str e
    rw [hfb] at h2; injection h2 with h2; injection h2 with _ h2; exact absurd h2 (by decide)), h.fr.grown g2 (fun j e => by injection e with e; subst e; exact ⟨_, hfb, rfl⟩)⟩, (Below.refl B w).setCell (p := ⟨f.b, 1, none⟩) hfB _⟩
  exact {
    nm := hmap h.con.nm
    dm := hmap h.con.dm
    pd := own_grown h.con.pd g2 (fun e => by
      obtain ⟨cur, h2⟩ := own_obj h.con.pd e
      rw [hfb] at h2; injection h2 with h2; injection h2 with _ h2; exact absurd h2 (by decide))
    fl := fun g hgm => by
      rcases updF_mem hgm with ⟨h1, hne⟩ | ⟨f0, h1, h2, rfl⟩
      · exact ⟨keep2 (h.con.fl g h1).1 hne, hdat g h1, (h.con.fl g h1).2.2⟩
      · have e0 : f0 = f := nod_eq h.con.nod h1 hf h2
        subst e0
        exact ⟨heap_setF w f0.b 1 _ _ _ _ hfb, hdat f0 hf, hfB⟩
    nod := updF_nod (fun _ => rfl) h.con.nod
    sep := fun g1 hg1 g2 hg2 hne k hk => by
      have own : ∀ g ∈ updF s.F f.b (fun f => { f with dur := n }), ∃ g0 ∈ s.F, g0.b = g.b := fun g hg => by
        rcases updF_mem hg with ⟨h1, _⟩ | ⟨f0, h1, _, rfl⟩
        · exact ⟨g, h1, rfl⟩
        · exact ⟨f0, h1, rfl⟩
      obtain ⟨a, ha, hab⟩ := own g1 hg1
      obtain ⟨b, hb, hbb⟩ := own g2 hg2
      rw [← hab] at hk hne
      rw [← hbb] at hne ⊢
      exact h.con.sep a ha b hb hne k hk
    mne := h.con.mne, bn := h.con.bn, bd := h.con.bd }
theorem DN.script {w w' : World} {B p : Nat} {m : Mem} {s : St} (h : DN sv sx w B p m s) {B' cb sb : Nat} {A : Option Addr} {n c : Nat} {l : List Int} {nx : Nat} (hs : ScA w B' cb sb A n c l nx) (hg : w.grownBy w' (some cb)) : DN sv sx w' B p m s :=
  ⟨obj_stay h.obj hg (fun j e => by injection e with e; subst e; exact .inr ⟨_, _, _, hs.cc, by decide⟩), h.low, h.con.other hs.cc hg (fun _ _ e => by cases e) (fun _ _ e => by injection e with _ e; exact absurd e (by decide)) (fun _ _ e => by injection e with _ e; exact absurd e (by decide)) (fun _ _ e => by injection e with _ e; exact absurd e (by decide)), own_grown h.str hg (fun e => by
    obtain ⟨cur, h2⟩ := own_obj h.str e
    rw [hs.cc] at h2; injection h2 with h2; injection h2 with _ h2; exact absurd h2 (by decide)), h.fr.grown hg (fun j e => by injection e with e; subst e; exact ⟨_, hs.cc, rfl⟩)⟩
/-- Bytes of a file turn in their place. -/
theorem DN.row {w w' : World} {B p : Nat} {m : Mem} {s : St} (h : DN sv sx w B p m s) {f : Fl} (hf : f ∈ s.F) {bs' : List UInt8} (hg : w.grownBy w' (m.dv f.b).ownBlock) (hd : DataAt w' B (m.dv f.b) bs') :
    DN sv sx w' B p m { s with F := updF s.F f.b fun f => { f with bs := bs' } } ∧ Below B w w' := by
  have hdv : ∀ j, (m.dv f.b).ownBlock = some j → ∃ us fz, w.heap[j]? = some (.cells us 5 fz) := fun j hj => (h.con.fl f hf).2.1.obj hj
  have keepF : ∀ {a : Nat} {o : Obj}, w.heap[a]? = some o → (∀ us fz, o ≠ .cells us 5 fz) → w'.heap[a]? = some o := fun {a o} ho hne => heap_stay ho hg (fun e => by
    obtain ⟨us, fz, h1⟩ := hdv a e
    rw [ho] at h1
    exact hne _ _ (Option.some.inj h1))
  have hmap : ∀ {b n : Nat} {D : Mp}, w.ownsMap Try.prog 9 ptrE b n D → w'.ownsMap Try.prog 9 ptrE b n D := fun {b n D} hb => by
    obtain ⟨es, c, h1, h2⟩ := hb
    exact ⟨es, c, keepF h1 (fun _ _ e => by cases e), h2⟩
  have hlt := row_lt h.obj
  have hlow := h.low
  refine ⟨⟨keepF h.obj (fun _ _ e => by injection e with _ e; exact absurd e (by decide)), h.low, ?_, own_stay h.str hg (fun k hk e => by
      obtain ⟨cur, h2⟩ := own_obj h.str hk
      obtain ⟨us, fz, h3⟩ := hdv k e.symm
      rw [h2] at h3; injection h3 with h3; injection h3 with _ h3; exact absurd h3 (by decide)), h.fr.grown hg (fun j e => by obtain ⟨us, fz, h1⟩ := hdv j e; exact ⟨_, h1, rfl⟩)⟩, (Below.refl B w).grown hg (by omega) (fun k hk => (h.con.fl f hf).2.1.ge hk)⟩
  exact {
    nm := hmap h.con.nm
    dm := hmap h.con.dm
    pd := own_stay h.con.pd hg (fun k hk e => by
      obtain ⟨cur, h2⟩ := own_obj h.con.pd hk
      obtain ⟨us, fz, h3⟩ := hdv k e.symm
      rw [h2] at h3; injection h3 with h3; injection h3 with _ h3; exact absurd h3 (by decide))
    fl := fun g hgm => by
      rcases updF_mem hgm with ⟨h1, hne⟩ | ⟨f0, h1, h2, rfl⟩
      · have h2 := h.con.fl g h1
        exact ⟨keepF h2.1 (fun _ _ e => by injection e with _ e; exact absurd e (by decide)), h2.2.1.stay hg (fun k hk e => h.con.sep g h1 f hf hne k hk e), h2.2.2⟩
      · have e0 : f0 = f := nod_eq h.con.nod h1 hf h2
        subst e0
        exact ⟨keepF (h.con.fl f0 hf).1 (fun _ _ e => by injection e with _ e; exact absurd e (by decide)), hd, (h.con.fl f0 hf).2.2⟩
    nod := updF_nod (fun _ => rfl) h.con.nod
    sep := fun g1 hg1 g2 hg2 hne k hk => by
      have own : ∀ g ∈ updF s.F f.b (fun f => { f with bs := bs' }), ∃ g0 ∈ s.F, g0.b = g.b := fun g hg => by
        rcases updF_mem hg with ⟨h1, _⟩ | ⟨f0, h1, _, rfl⟩
        · exact ⟨g, h1, rfl⟩
        · exact ⟨f0, h1, rfl⟩
      obtain ⟨a, ha, hab⟩ := own g1 hg1
      obtain ⟨b, hb, hbb⟩ := own g2 hg2
      rw [← hab] at hk hne
      rw [← hbb] at hne ⊢
      exact h.con.sep a ha b hb hne k hk
    mne := h.con.mne, bn := h.con.bn, bd := h.con.bd }
theorem updF_updF (F : List Fl) (k : Nat) (g g' : Fl → Fl) (hg : ∀ f, (g f).b = f.b) : updF (updF F k g) k g' = updF F k (fun f => g' (g f)) := by
  unfold updF
  rw [List.map_map]
  refine List.map_congr_left fun f _ => ?_
  simp only [Function.comp]
  by_cases e : f.b = k
  · rw [if_pos e, if_pos (by rw [hg]; exact e), if_pos e]
  · rw [if_neg e, if_neg e, if_neg e]
theorem updF_congr {F : List Fl} {k : Nat} {g g' : Fl → Fl} (h : ∀ f ∈ F, f.b = k → g f = g' f) : updF F k g = updF F k g' := by
  unfold updF
  refine List.map_congr_left fun f hf => ?_
  by_cases e : f.b = k
  · rw [if_pos e, if_pos e, h f hf e]
  · rw [if_neg e, if_neg e]
def flp (b : UInt8) : UInt8 := 255 - b
/-- What power leaves of a file, and how many numbers of the script are used then. -/
def failK (l : List Int) (nx : Nat) (f : Fl) : Nat := chN l nx (f.bs.length - f.dur)
def failB (l : List Int) (nx : Nat) (f : Fl) : List UInt8 :=
  let bs := f.bs.take (f.dur + failK l nx f)
  if 0 < failK l nx f ∧ chN l (nx + 1) 1 = 1 then bs.set (bs.length - 1) (flp (bs.getD (bs.length - 1) 0)) else bs
def failF (l : List Int) (nx : Nat) (f : Fl) : Fl := ⟨f.b, failB l nx f, f.dur + failK l nx f⟩
def failX (l : List Int) (nx : Nat) (f : Fl) : Nat := if 0 < failK l nx f then nx + 2 else nx + 1
theorem xor_flp : ∀ x : Nat, x < 256 → bits .xor .u8 (x : Int) 255 = ((255 - x : Nat) : Int) := by decide +kernel
theorem fail_fin {V2 : World} {B p : Nat} {m1 : Mem} {s : St} {f : Fl} {bs : List UInt8} {N nx : Nat} {l : List Int} (HD2 : DN sv sx V2 B p m1 { s with F := updF s.F f.b fun g => { g with bs := bs } }) (hfm : f ∈ s.F) (hnod : s.F.Pairwise fun f g => f.b ≠ g.b) (hF : failF l nx f = ⟨f.b, bs, N⟩) :
    DN sv sx (V2.setCell ⟨f.b, 1, none⟩ (.int .i64 (N : Nat))) B p m1 { s with F := updF s.F f.b (failF l nx) } ∧ Below B V2 (V2.setCell ⟨f.b, 1, none⟩ (.int .i64 (N : Nat))) ∧ ∀ cb sb A n c nx', ScA V2 B cb sb A n c l nx' → ScA (V2.setCell ⟨f.b, 1, none⟩ (.int .i64 (N : Nat))) B cb sb A n c l nx' := by
  have hf1 : (⟨f.b, bs, f.dur⟩ : Fl) ∈ updF s.F f.b (fun g => { g with bs := bs }) := List.mem_map.2 ⟨f, hfm, by rw [if_pos rfl]⟩
  have DD2 := HD2.dur hf1 N
  have e : updF (updF s.F f.b (fun g => { g with bs := bs })) f.b (fun g => { g with dur := N }) = updF s.F f.b (failF l nx) := by
    rw [updF_updF s.F f.b (fun g => { g with bs := bs }) (fun g => { g with dur := N }) (fun _ => rfl)]
    refine updF_congr fun f' hf' e => ?_
    have : f' = f := nod_eq hnod hf' hfm e
    subst this
    rw [hF]
  have h2 := DD2.2.1
  simp only [e] at h2
  exact ⟨h2, DD2.2.2, fun cb sb A n c nx' hA => hA.turn (grown_cells f.b [.int .i64 (N : Nat)] 1 V2) (HD2.con.fl _ hf1).2.2 (HD2.con.fl _ hf1).1 (fun _ _ e => by injection e with _ e; exact absurd e (by decide)) (fun _ _ e => by injection e with _ e; exact absurd e (by decide))⟩
set_option maxRecDepth 100000 in
set_option maxHeartbeats 8000000 in
theorem fail_any {w : World} {B p : Nat} {m : Mem} {s : St} (h : DN sv sx w B p m s) {f : Fl} (hfm : f ∈ s.F) (hfl : f.bs.length ≤ 16777216 ∧ f.dur ≤ f.bs.length) {cb sb : Nat} {A : Option Addr} {n c : Nat} {l : List Int} {nx : Nat} (hA : ScA w B cb sb A n c l nx) (hnx : nx ≤ 1000000000) :
    Calls Try.prog 58 #[ptrV f.b, scV cb sb] w fun e w' => (∃ v, e = .returned v) ∧ (∃ m', DN sv sx w' B p m' { s with F := updF s.F f.b (failF l nx) } ∧ m'.n1 = m.n1 ∧ m'.n2 = m.n2 ∧ m'.mn = m.mn ∧ m'.md = m.md) ∧ ScA w' B cb sb A n c l (failX l nx f) ∧ Below B w w' := by
  obtain ⟨A1, c1, hdv, hlc, hcm, hA1⟩ := (h.con.fl f hfm).2.1.slice
  have hC := Cells.of_row (h.con.fl f hfm).1
  rw [hdv] at hC
  obtain ⟨L, hL⟩ : ∃ n, f.bs.length = n := ⟨_, rfl⟩
  rw [hL] at hC hlc hfl hdv hA1
  obtain ⟨M, hM⟩ : ∃ n, L - f.dur = n := ⟨_, rfl⟩
  obtain ⟨k, hk⟩ : ∃ n, chN l nx M = n := ⟨_, rfl⟩
  have hkM := chN_le l nx M
  rw [hk] at hkM
  have HM := Lib.hid h
  have HA := Lib.hid hA
  have HC := Lib.hid hC
  have Hdv := Lib.hid hdv
  have HL := Lib.hid hL
  have Hk := Lib.hid (show failK l nx f = k by unfold failK; rw [hL, hM, hk])
  have e0 : IntKind.i64.wrap ((L : Int) - (f.dur : Int)) = (M : Int) := by rw [show (L : Int) - (f.dur : Int) = (M : Int) by omega]; exact IntWalk.i64_in _ (by omega)
  clear h hA hC hdv hL
  go_enter Try.func58, Try.ntmps58
  go_upto_region 0 with fail
  have HS := Lib.hid (fun w' (hb : Below w.heap.size w w') => (show w'.cell? ⟨f.b, 0, none⟩ = some (.slice A1 L c1) ∧ w'.cell? ⟨f.b, 1, none⟩ = some (.int .i64 (f.dur : Nat)) from ⟨(HC.out.keep hb).at_ 0, (HC.out.keep hb).at_ 1⟩))
  refine Till.begin 11 (fun w' => w'.cell? ⟨f.b, 0, none⟩ = some (.slice A1 L c1) ∧ w'.cell? ⟨f.b, 1, none⟩ = some (.int .i64 (f.dur : Nat))) (by kernel_rfl) (HS.out _ (Below.refl _ _).drew) (fun hH => ?_)
  clear hH
  have HB0 := Lib.hid (Below.refl w.heap.size w).drew
  generalize w.drew = V0 at HB0 ⊢
  try simp only [List.setIfInBounds_toArray, List.set_cons_zero, List.set_cons_succ]
  refine Till.tL 0 [11] 5 (scV cb sb) (HS.out _ HB0.out) ?_
  try simp only [Act.put, List.setIfInBounds_toArray, List.set_cons_zero, List.set_cons_succ]
  refine Till.tL 1 [2, 3, 4, 5, 10, 11] 6 (ptrV f.b) (HS.out _ HB0.out) ?_
  try simp only [Act.put, List.setIfInBounds_toArray, List.set_cons_zero, List.set_cons_succ]
  refine Till.tL 2 [3, 4, 5, 10, 11] 7 (ptrV f.b) (HS.out _ HB0.out) ?_
  try simp only [Act.put, List.setIfInBounds_toArray, List.set_cons_zero, List.set_cons_succ]
  refine Till.tL 3 [4, 5, 10, 11] 8 (.pointer (some ⟨f.b, 0, none⟩)) (HS.out _ HB0.out) ?_
  try simp only [Act.put, List.setIfInBounds_toArray, List.set_cons_zero, List.set_cons_succ]
  refine Till.tL 4 [5, 10, 11] 9 (.slice A1 L c1) (HS.out _ HB0.out) ?_
  try simp only [Act.put, List.setIfInBounds_toArray, List.set_cons_zero, List.set_cons_succ]
  refine Till.tL 5 [10, 11] 10 (.int .i64 (L : Nat)) (HS.out _ HB0.out) ?_
  try simp only [Act.put, List.setIfInBounds_toArray, List.set_cons_zero, List.set_cons_succ]
  refine Till.tL 6 [7, 8, 9, 10, 11] 11 (ptrV f.b) (HS.out _ HB0.out) ?_
  try simp only [Act.put, List.setIfInBounds_toArray, List.set_cons_zero, List.set_cons_succ]
  refine Till.tL 7 [8, 9, 10, 11] 12 (ptrV f.b) (HS.out _ HB0.out) ?_
  try simp only [Act.put, List.setIfInBounds_toArray, List.set_cons_zero, List.set_cons_succ]
  refine Till.tL 8 [9, 10, 11] 13 (.pointer (some ⟨f.b, 1, none⟩)) (HS.out _ HB0.out) ?_
  try simp only [Act.put, List.setIfInBounds_toArray, List.set_cons_zero, List.set_cons_succ]
  refine Till.tL 9 [10, 11] 14 (.int .i64 (f.dur : Nat)) (HS.out _ HB0.out) ?_
  try simp only [Act.put, List.setIfInBounds_toArray, List.set_cons_zero, List.set_cons_succ]
  refine Till.tL 10 [11] 15 (.int .i64 (M : Nat)) (HS.out _ HB0.out) ?_
  try simp only [Act.put, List.setIfInBounds_toArray, List.set_cons_zero, List.set_cons_succ]
  refine Till.one (i := 11) (by kernel_rfl) rfl (fun K hK => ?_)
  go_simp
  refine (choose_any (HA.out.keep HB0.out) M (by omega) (by omega)).mono ?_
  rintro e V1 ⟨rfl, hA1, hg1⟩
  rw [hk]
  refine hK.out _ _ (fun h => absurd h (by simp)) ?_
  clear hK K
  try simp only [List.setIfInBounds_toArray, List.set_cons_zero, List.set_cons_succ]
  refine Till.one (i := 12) (by kernel_rfl) rfl (fun K hK => ?_)
  go_simp
  refine hK.out _ _ (fun h => absurd h (by simp)) ?_
  clear hK K
  try simp only [List.setIfInBounds_toArray, List.set_cons_zero, List.set_cons_succ]
  refine Till.done (by kernel_rfl) ?_ _
  have h1 := (HM.out.keep HB0.out).script (HA.out.keep HB0.out) hg1
  have HKw := Lib.hid (show Below B w V1 from (HB0.out.mono (by have := HM.out.low; have := row_lt HM.out.obj; omega)).trans (below_g hg1 HA.out.ge (row_lt (HA.out.keep HB0.out).cc)))
  clear hg1 HS HB0 HC
  have hDt := (h1.con.fl f hfm).2.1
  rw [Hdv.out] at hDt
  have DD := h1.data hfm (World.grownBy.refl _ _) (hDt.take (k := f.dur + k) (by have := HL.out; omega)) (fun j hj => .inl (by rw [Hdv.out]; cases A1 <;> exact hj))
  have z0 := DD.1.1
  rw [Hdv.out] at z0
  have y0 := DD.1.2
  have z1 := (Cells.of_row (h1.con.fl f hfm).1).at_ 1
  simp only [List.getElem?_cons_zero, List.getElem?_cons_succ] at z1
  have HD2 := Lib.hid DD.2.1
  have HB2 := Lib.hid (HKw.out.trans DD.2.2)
  have HA2 := Lib.hid (show ScA (V1.setCell ⟨f.b, 0, none⟩ (.slice A1 (f.dur + k) c1)) B cb sb A n c l (nx + 1) from hA1.turn (grown_cells f.b [.slice A1 (f.dur + k) c1] 0 V1) (h1.con.fl f hfm).2.2 (h1.con.fl f hfm).1 (fun _ _ e => by injection e with _ e; exact absurd e (by decide)) (fun _ _ e => by injection e with _ e; exact absurd e (by decide)))
  have e5 : IntKind.i64.wrap ((f.dur : Int) + (k : Int)) = ((f.dur + k : Nat) : Int) := by rw [show (f.dur : Int) + (k : Int) = ((f.dur + k : Nat) : Int) by omega]; exact IntWalk.i64_in _ (by omega)
  have e6 : ((f.dur + k : Nat) : Int) ≤ (c1 : Int) := by omega
  have e7 : f.dur + k ≤ c1 := by omega
  have mixed : Try.prog.follows .mixedOrders = true := by kernel_rfl
  have HK0 := Lib.hid HM.out.con.nod
  clear DD h1 hDt hA1
  have hf1 : (⟨f.b, f.bs.take (f.dur + k), f.dur⟩ : Fl) ∈ updF s.F f.b (fun g => { g with bs := f.bs.take (f.dur + k) }) := List.mem_map.2 ⟨f, hfm, by rw [if_pos rfl]⟩
  have hl1 : (f.bs.take (f.dur + k)).length = f.dur + k := by rw [List.length_take]; have := HL.out; omega
  obtain ⟨m1, hm1⟩ : ∃ m1 : Mem, ({ m with dv := fun j => if j = f.b then .slice A1 (f.dur + k) c1 else m.dv j } : Mem) = m1 := ⟨_, rfl⟩
  have hd1 : m1.dv f.b = .slice A1 (f.dur + k) c1 := by rw [← hm1]; exact if_pos rfl
  have Hm1 := Lib.hid (show m1.n1 = m.n1 ∧ m1.n2 = m.n2 ∧ m1.mn = m.mn ∧ m1.md = m.md by rw [← hm1]; exact ⟨rfl, rfl, rfl, rfl⟩)
  rw [hm1] at HD2
  clear hm1
  have Hd1 := Lib.hid hd1
  have Hf1 := Lib.hid hf1
  have Hl1 := Lib.hid hl1
  clear hd1 hf1 hl1
  go_wp2_with fail
  go_region
  clear z0 z1 y0 e5 e6 e7
  generalize V1.setCell ⟨f.b, 0, none⟩ (.slice A1 (f.dur + k) c1) = V2 at HD2 HB2 HA2 ⊢
  clear HM HA HKw
  obtain ⟨N, hN⟩ : ∃ n, f.dur + k = n := ⟨_, rfl⟩
  rw [hN] at HD2 Hd1 Hf1 Hl1
  have HC2 := Lib.hid (Cells.of_row (HD2.out.con.fl _ Hf1.out).1)
  rw [Hd1.out] at HC2
  rcases Nat.eq_zero_or_pos k with k0 | kpos
  · subst k0
    have z0 := (HC2.out.drew).at_ 0
    have z1 := (HC2.out.drew).at_ 1
    simp only [List.getElem?_cons_zero, List.getElem?_cons_succ] at z0 z1
    have y1 := HC2.out.fz 1
    have hF : failF l nx f = ⟨f.b, f.bs.take N, N⟩ := by
      unfold failF failB
      rw [Hk.out, if_neg (fun h => absurd h.1 (by decide))]
      simp only [hN]
    have DD2 := fail_fin HD2.out hfm HK0.out hF
    have hX := Lib.hid (show failX l nx f = nx + 1 by unfold failX; rw [Hk.out]; rfl)
    have HA3 := Lib.hid (DD2.2.2 _ _ _ _ _ _ HA2.out)
    have HD3 := Lib.hid DD2.1
    have HB3 := Lib.hid (HB2.out.trans DD2.2.1)
    clear DD2
    go_wp2_with fail
    go_end0
    exact ⟨⟨_, rfl⟩, ⟨m1, HD3.out.keep (Below.refl _ _).drew, Hm1.out⟩, by rw [hX.out]; exact HA3.out.keep (Below.refl _ _).drew, HB3.out.drew⟩
  · have z0 := (HC2.out.drew).at_ 0
    have z1 := (HC2.out.drew).at_ 1
    simp only [List.getElem?_cons_zero, List.getElem?_cons_succ] at z0 z1
    have e8 : (0 : Int) < k := by omega
    go_wp2_with fail
    refine (choose_any (HA2.out.keep (Below.refl _ _).drew) 1 (by omega) (by omega)).mono ?_
    rintro e V3 ⟨rfl, hA3, hg3⟩
    have HD4 := Lib.hid ((HD2.out.keep (Below.refl _ _).drew).script (HA2.out.keep (Below.refl _ _).drew) hg3)
    have HB4 := Lib.hid (HB2.out.drew.trans (below_g hg3 HA2.out.ge (row_lt (HA2.out.keep (Below.refl _ _).drew).cc)))
    have HA4 := Lib.hid hA3
    have HC4 := Lib.hid (Cells.of_row (HD4.out.con.fl _ Hf1.out).1)
    rw [Hd1.out] at HC4
    clear hA3 hg3 z0 z1 HC2 HD2 HA2 HB2
    have z0 := (HC4.out).at_ 0
    have z1 := (HC4.out).at_ 1
    have y1 := HC4.out.fz 1
    simp only [List.getElem?_cons_zero, List.getElem?_cons_succ] at z0 z1
    have hle := chN_le l (nx + 1) 1
    rcases (show chN l (nx + 1) 1 = 0 ∨ chN l (nx + 1) 1 = 1 by omega) with hc2 | hc2
    · rw [hc2]
      have hF : failF l nx f = ⟨f.b, f.bs.take N, N⟩ := by
        unfold failF failB
        rw [Hk.out, hc2, if_neg (fun h => absurd h.2 (by decide))]
        simp only [hN]
      have DD2 := fail_fin HD4.out hfm HK0.out hF
      have hX := Lib.hid (show failX l nx f = nx + 2 by unfold failX; rw [Hk.out, if_pos kpos])
      have HA5 := Lib.hid (DD2.2.2 _ _ _ _ _ _ HA4.out)
      have HD3 := Lib.hid DD2.1
      have HB3 := Lib.hid (HB4.out.trans DD2.2.1)
      clear DD2 HA4 hF
      go_wp2_with fail
      go_end0
      exact ⟨⟨_, rfl⟩, ⟨m1, HD3.out, Hm1.out⟩, by rw [hX.out]; exact HA5.out, HB3.out⟩
    · rw [hc2]
      obtain ⟨g, hg⟩ := hA1 (by omega)
      subst hg
      have hDt2 := (HD4.out.con.fl _ Hf1.out).2.1
      rw [Hd1.out] at hDt2
      have hDt3 : DataAt V3 B (.slice (some ⟨g, 0, none⟩) (f.bs.take N).length c1) (f.bs.take N) := by rw [Hl1.out]; exact hDt2
      clear hDt2
      obtain ⟨x, hx⟩ : ∃ x, (f.bs.take N)[N - 1]? = some x := ⟨_, List.getElem?_eq_getElem (by rw [Hl1.out]; omega)⟩
      obtain ⟨g1, g2, g3, g4, g5⟩ := hDt3.cells
      have z2 := g5 _ _ hx
      have y2 := g3 (N - 1) (by omega)
      have hp := hDt3.put (i := N - 1) (flp x)
      have hxl : x.toNat < 256 := x.toNat_lt
      have e9 : bits .xor .u8 (x.toNat : Int) 255 = ((flp x).toNat : Int) := by
        rw [xor_flp _ hxl]
        unfold flp
        rw [UInt8.toNat_sub_of_le _ _ (by rw [UInt8.le_iff_toNat_le]; simp; omega)]
        rfl
      have hfb : g ≠ f.b := fun e => by
        obtain ⟨us, fz, h1⟩ := (HD4.out.con.fl _ Hf1.out).2.1.obj (k := g) (by rw [Hd1.out]; rfl)
        rw [e, (HD4.out.con.fl _ Hf1.out).1] at h1
        injection h1 with h1; injection h1 with _ h1; exact absurd h1 (by decide)
      have hgr := grown_cells g [.int .u8 (flp x).toNat] (N - 1) V3
      have DD := HD4.out.row Hf1.out (w' := V3.setCell ⟨g, N - 1, none⟩ (.int .u8 (flp x).toNat)) (by show World.grownBy _ _ (m1.dv f.b).ownBlock; rw [Hd1.out]; exact hgr) (by show DataAt _ _ (m1.dv f.b) _; rw [Hd1.out]; have h9 := hp; rw [List.length_set, Hl1.out] at h9; exact h9)
      have HD5 := Lib.hid DD.1
      have HB5 := Lib.hid (HB4.out.trans DD.2)
      have HA5 := Lib.hid (show ScA (V3.setCell ⟨g, N - 1, none⟩ (.int .u8 (flp x).toNat)) B cb sb A n c l (nx + 2) from HA4.out.turn hgr g2 (show V3.heap[g]? = _ from ((HD4.out.con.fl _ Hf1.out).2.1.obj (k := g) (by show (m1.dv f.b).ownBlock = _; rw [Hd1.out]; rfl)).choose_spec.choose_spec) (fun _ _ e => by injection e with _ e; exact absurd e (by decide)) (fun _ _ e => by injection e with _ e; exact absurd e (by decide)))
      have HC5 := Lib.hid (HC4.out.other hfb.symm (N - 1) (.int .u8 (flp x).toNat))
      have Hx := Lib.hid hx
      clear DD hp hgr g1 g2 g3 g4 g5 hDt3 hx
      have e10 : IntKind.i64.wrap ((N : Int) - 1) = ((N - 1 : Nat) : Int) := by rw [show (N : Int) - 1 = ((N - 1 : Nat) : Int) by omega]; exact IntWalk.i64_in _ (by omega)
      have e11 : ((N - 1 : Nat) : Int) < (N : Int) := by omega
      have e12 : N - 1 < N := by omega
      go_wp2_with fail
      go_region
      clear z0 z1 z2 y1 y2 e9 e10
      generalize V3.setCell ⟨g, N - 1, none⟩ (.int .u8 (flp x).toNat) = V5 at HD5 HB5 HA5 HC5 ⊢
      clear HD4 HB4 HA4 HC4
      have z0 := (HC5.out.drew).at_ 0
      have z1 := (HC5.out.drew).at_ 1
      have y1 := HC5.out.fz 1
      simp only [List.getElem?_cons_zero, List.getElem?_cons_succ] at z0 z1
      have hF : failF l nx f = ⟨f.b, (f.bs.take N).set (N - 1) (flp x), N⟩ := by
        unfold failF failB
        rw [Hk.out, hc2, if_pos ⟨kpos, rfl⟩, hN, Hl1.out]
        simp only [List.getD_eq_getElem?_getD, Hx.out, Option.getD_some]
      have hX := Lib.hid (show failX l nx f = nx + 2 by unfold failX; rw [Hk.out, if_pos kpos])
      have DD2 := HD5.out
      rw [updF_updF s.F f.b (fun g => { g with bs := f.bs.take N }) (fun g' => { g' with bs := (f.bs.take N).set (N - 1) (flp x) }) (fun _ => rfl)] at DD2
      have DD3 := fail_fin DD2 hfm HK0.out hF
      have HA6 := Lib.hid (DD3.2.2 _ _ _ _ _ _ HA5.out)
      have HD3 := Lib.hid DD3.1
      have HB3 := Lib.hid (HB5.out.trans DD3.2.1)
      clear DD2 DD3 HA5 hF
      go_wp2_with fail
      go_end0
      exact ⟨⟨_, rfl⟩, ⟨m1, HD3.out.keep (Below.refl _ _).drew, Hm1.out⟩, by rw [hX.out]; exact HA6.out.keep (Below.refl _ _).drew, HB3.out.drew⟩
end
end Go.Proofs.Ytbmogecnepgnaaa
