/- The disk and its model: start, an act, bounds. -/
import Derived.Test.YtbmogecnepgnaaaDcr
namespace Go.Proofs.Ytbmogecnepgnaaa
open Go.RowKit Go.Maps Go.Shelf
theorem fail_ent (l : List Int) (nx : Nat) (f : Fl) : entF (failF l nx f) = failM l nx (entF f) := rfl
theorem fail_x (l : List Int) (nx : Nat) (f : Fl) : failX l nx f = failXM l nx (entF f) := rfl
theorem fold_sim {D : Mp} {l : List Int} : ∀ (es : List Ent) {F : List Fl} {nx : Nat}, (F.Pairwise fun f g => f.b ≠ g.b) → (∀ e ∈ es, ∃ f, F[e.2]? = some f ∧ D.atKey (kS e.1) zD = pD f.b) →
    (((es.map bsE).foldl (stepF l D) (F, nx)).1.map entF = (es.foldl (stepM l) (F.map entF, nx)).1) ∧ ∀ (i : Nat) (f : Fl), F[i]? = some f → ∃ f' : Fl, (((es.map bsE).foldl (stepF l D) (F, nx)).1)[i]? = some f' ∧ f'.b = f.b
  | [], F, nx, _, _ => ⟨rfl, fun i f h => ⟨f, h, rfl⟩⟩
  | e :: es, F, nx, hn, h => by
    obtain ⟨f, h1, h2⟩ := h e (by simp)
    have hk : ∀ f, (failF l nx f).b = f.b := fun _ => rfl
    have hkp := upd_keep (F := F) (k := f.b) hk
    have hs : stepF l D (F, nx) (bsE e) = (updF F f.b (failF l nx), failX l nx f) := stepF_at hn (List.mem_of_getElem? h1) h2
    have ht : stepM l (F.map entF, nx) e = ((updF F f.b (failF l nx)).map entF, failX l nx f) := by
      unfold stepM
      rw [at_map h1, upd_map hn h1, fail_ent, fail_x]
    have ih := fold_sim (D := D) (l := l) es (F := updF F f.b (failF l nx)) (nx := failX l nx f) (updF_nod hk hn) fun e' he' => by
      obtain ⟨g, h3, h4⟩ := h e' (List.mem_cons_of_mem _ he')
      obtain ⟨g', h5, h6⟩ := hkp _ _ h3
      exact ⟨g', h5, by rw [h6]; exact h4⟩
    rw [List.map_cons, List.foldl_cons, List.foldl_cons, hs, ht]
    refine ⟨ih.1, fun i f0 hf0 => ?_⟩
    obtain ⟨g, h3, h4⟩ := hkp _ _ hf0
    obtain ⟨g', h5, h6⟩ := ih.2 _ _ h3
    exact ⟨g', h5, h6.trans h4⟩
section
variable {s : St} {md : Md} (h : Sim s md)
include h
theorem sim_start (hn : s.F.Pairwise fun f g => f.b ≠ g.b) (hd : s.down = true) {l : List Int} {ss : List (List UInt8)} (hp : ss.Perm (strKeys (stD s l))) (hs : ss.Pairwise fun a b => decide (a ≤ b) = true) : Sim (stS s l ss) (stM md l) := by
  have hR : NR s.F (stD s l) (stDM md l) := by
    unfold stD stDM
    rw [h.pd.len]
    exact PR.take _ h.dm h.pd
  have e := hR.order hp hs
  subst e
  obtain ⟨f1, f2⟩ := fold_sim (D := stD s l) (l := l) (stDM md l) (nx := 1) hn fun e he => let ⟨_, _, f, a, b⟩ := hR.hit e he; ⟨f, a, b⟩
  unfold stM
  rw [if_neg (by rw [h.down, hd]; decide)]
  refine ⟨h.cap, rfl, rfl, ?_, hR.mono f2, hR.mono f2, trivial⟩
  show ((stDM md l).foldl (stepM l) (md.files, 1)).1 = _
  rw [h.fl]
  exact f1.symm
theorem sim_act (hl : DL s) (hn : s.F.Pairwise fun f g => f.b ≠ g.b) {x : Ac} {l : List Int} {e : Int} {s' : St} (hr : AcR s x l e s') : mkE md x (x.kind % 11) = e ∧ Sim s' (mkS md x l (x.kind % 11)) := by
  unfold AcR at hr
  obtain ⟨k, hk⟩ : ∃ k, x.kind % 11 = k := ⟨_, rfl⟩
  rw [hk] at hr ⊢
  have hk11 : k < 11 := by omega
  clear hk
  have ap : ∀ b, (ap0 s x.name x.dst = 0 → ∀ f ∈ s.F, f.b ≠ b) → e = apE s x.name x.dst → s' = apS s x.name x.dst b → aMe md x.name x.dst = e ∧ Sim s' (aMs md x.name x.dst) := fun b h1 h2 h3 => by
    rw [h2, h3]
    exact sim_append h hl hn x.name x.dst h1
  rcases (show k = 0 ∨ k = 1 ∨ k = 2 ∨ k = 3 ∨ k = 4 ∨ k = 5 ∨ k = 6 ∨ k = 7 ∨ k = 8 ∨ k = 9 ∨ k = 10 by omega) with rfl | rfl | rfl | rfl | rfl | rfl | rfl | rfl | rfl | rfl | rfl
  · obtain ⟨b, h1, h2, h3⟩ := hr
    exact ap b h1 h2 h3
  · obtain ⟨h2, h3⟩ := hr
    rw [h2, h3]
    exact sim_sync h hn x.name
  · obtain ⟨h2, h3⟩ := hr
    rw [h2, h3]
    exact sim_rename h hl x.name x.dst
  · obtain ⟨h2, h3⟩ := hr
    rw [h2, h3]
    exact sim_remove h hl x.name
  · obtain ⟨h2, h3⟩ := hr
    rw [h2, h3]
    exact sim_publish h hl
  · obtain ⟨h2, h3⟩ := hr
    rw [h2, h3]
    unfold mkE mkS chk liS
    simp only [h.down]
    refine ⟨trivial, ?_⟩
    by_cases hd : s.down = true
    · rw [if_pos hd, if_pos hd]
      exact h
    · rw [if_neg hd, if_neg hd]
      refine ⟨h.cap, rfl, ?_, h.fl, h.nm, h.dm, h.pd⟩
      show max x.num (-1) = if decide (0 ≤ x.num) = true then ((x.num.toNat : Nat) : Int) else -1
      by_cases h0 : 0 ≤ x.num
      · rw [if_pos (decide_eq_true h0)]; omega
      · rw [if_neg (by simpa using h0)]; omega
  · obtain ⟨h2, h3⟩ := hr
    rw [h2, h3]
    exact ⟨rfl, ⟨h.cap, rfl, h.lim, h.fl, h.nm, h.dm, h.pd⟩⟩
  · obtain ⟨h2, h3⟩ := hr
    rw [h2]
    refine ⟨rfl, ?_⟩
    by_cases hd : s.down = true
    · rw [if_pos hd] at h3
      obtain ⟨ss, hp, hs, rfl⟩ := h3
      exact sim_start h hn hd hp hs
    · rw [if_neg hd] at h3
      rw [h3]
      show Sim s (stM md l)
      unfold stM
      rw [if_pos (by rw [h.down]; simpa using hd)]
      exact h
  · obtain ⟨b, h1, h2, h3⟩ := hr
    exact ap b h1 h2 h3
  · obtain ⟨b, h1, h2, h3⟩ := hr
    exact ap b h1 h2 h3
  · obtain ⟨b, h1, h2, h3⟩ := hr
    exact ap b h1 h2 h3
theorem Sim.mb {w : World} {B p c : Nat} (hD : Disk w B p s c) (hc : c ≤ 900) (hF : s.F.length ≤ 900) : MB md ∧ (∀ c ∈ md.pend, isE c.2.1 = false → c.2.2 < md.files.length) ∧ md.dur.length + md.pend.length ≤ 900 := by
  have hl := hD.dl
  obtain ⟨m, hm, _, h1, h2, h3⟩ := hD
  have s1 := hm.con.nm.size_le
  have s2 := hm.con.dm.size_le
  have e1 := h.nm.size
  have e2 := h.dm.size
  have e3 := h.pd.len
  have ef : md.files.length = s.F.length := by rw [h.fl, List.length_map]
  refine ⟨⟨by omega, by omega, by omega, by omega, ?_, ?_, ?_, ?_, by rw [h.cap]; exact hl.cl⟩, ?_, by omega⟩
  · rw [h.lim]
    have := hl.ll
    split <;> omega
  · intro e he
    obtain ⟨_, _, f, h4, _⟩ := h.nm.hit e he
    rw [ef]
    exact (List.getElem?_eq_some_iff.1 h4).1
  · intro e he
    obtain ⟨_, _, f, h4, _⟩ := h.dm.hit e he
    rw [ef]
    exact (List.getElem?_eq_some_iff.1 h4).1
  · intro f hf
    rw [h.fl] at hf
    obtain ⟨g, hg, rfl⟩ := List.mem_map.1 hf
    have h5 := hl.fl g hg
    show g.bs.toArray.size ≤ 16777216 ∧ g.dur ≤ g.bs.toArray.size
    rw [List.size_toArray]
    exact h5
  · rw [ef]
    exact h.pd.px
end
theorem updF_len (F : List Fl) (k : Nat) (g : Fl → Fl) : (updF F k g).length = F.length := by unfold updF; rw [List.length_map]
theorem foldF_len (l : List Int) (D : Mp) : ∀ (ss : List (List UInt8)) (st : List Fl × Nat), ((ss.foldl (stepF l D) st).1).length = st.1.length
  | [], _ => rfl
  | n :: ss, st => by
    rw [List.foldl_cons, foldF_len l D ss]
    unfold stepF
    split
    · exact updF_len _ _ _
    · rfl
theorem cnt_rd (s : St) : (cntS s).rd = s.rd := by
  unfold cntS
  split
  · split <;> rfl
  · rfl
def Stay (s s' : St) : Prop := s'.rd = s.rd ∧ s'.F.length ≤ s.F.length + 1
theorem Stay.refl (s : St) : Stay s s := ⟨rfl, by omega⟩
theorem Stay.cnt {s X : St} (h : Stay s X) : Stay s (cntS X) := ⟨(cnt_rd X).trans h.1, by rw [(cntS_F X).1]; exact h.2⟩
theorem Stay.op (s : St) (o : Opn) : Stay s (opS s o) := Stay.cnt (X := { s with D1 := appO o s.D1, ops := s.ops ++ [o] }) ⟨rfl, Nat.le_succ _⟩
/-- An act leaves what rides along, and adds at most one file. -/
theorem AcR.stay {s s' : St} {x : Ac} {l : List Int} {e : Int} (hr : AcR s x l e s') : Stay s s' := by
  have hc := (Stay.refl s).cnt
  unfold AcR acM at hr
  split at hr
  · rw [hr.2]
    unfold syS
    split
    · split
      · exact ⟨hc.1, by show (updF s.F _ _).length ≤ _; rw [updF_len]; omega⟩
      · exact hc
    · exact Stay.refl s
  · rw [hr.2]
    unfold rnS
    split
    · split
      · exact Stay.op s _
      · exact Stay.refl s
    · exact Stay.refl s
  · rw [hr.2]
    unfold rmS
    split
    · exact Stay.op s _
    · exact Stay.refl s
  · rw [hr.2]
    unfold puS
    split
    · exact Stay.refl s
    · split
      · exact ⟨hc.1, hc.2⟩
      · exact hc
  · rw [hr.2]
    unfold liS
    split
    · exact Stay.refl s
    · exact ⟨rfl, Nat.le_succ _⟩
  · rw [hr.2]
    exact ⟨rfl, Nat.le_succ _⟩
  · have h2 := hr.2
    split at h2
    · obtain ⟨ss, _, _, rfl⟩ := h2
      exact ⟨rfl, by show ((ss.foldl (stepF l (stD s l)) (s.F, 1)).1).length ≤ _; rw [foldF_len]; exact Nat.le_succ _⟩
    · rw [h2]; exact Stay.refl s
  · obtain ⟨b, _, _, rfl⟩ := hr
    unfold apS
    split
    · refine Stay.cnt ?_
      split
      · exact ⟨rfl, by show (updF s.F _ _).length ≤ _; rw [updF_len]; omega⟩
      · exact ⟨rfl, by show (s.F ++ [_]).length ≤ _; rw [List.length_append]; exact Nat.le_refl _⟩
    · exact Stay.refl s
/-- What rides along is chosen anew. -/
theorem Disk.base {w : World} {B p c : Nat} {s : St} (h : Disk w B p s c) {rd : Nat → Option Obj} (hf : Fr rd w) : Disk w B p { s with rd := rd } c :=
  let ⟨m, h1, h2, h3⟩ := h
  ⟨m, ⟨h1.obj, h1.low, h1.con, hf⟩, ⟨h2.t1, h2.t2, h2.r1, h2.r2, h2.fl, h2.cl, h2.ll, h2.ok, h2.run, h2.onm, h2.ro⟩, h3⟩
theorem Disk.here {w : World} {B p c : Nat} {s : St} (h : Disk w B p s c) : Disk w B p { s with rd := fun j => w.heap[j]? } c := h.base fun _ _ _ _ e _ => e
theorem Disk.fr {w : World} {B p c : Nat} {s : St} (h : Disk w B p s c) : Fr s.rd w := let ⟨_, h1, _⟩ := h; h1.fr
theorem Sim.base {s : St} {md : Md} (h : Sim s md) (rd : Nat → Option Obj) : Sim { s with rd := rd } md := ⟨h.cap, h.down, h.lim, h.fl, h.nm, h.dm, h.pd⟩
theorem Disk.nod {w : World} {B p c : Nat} {s : St} (h : Disk w B p s c) : s.F.Pairwise fun f g => f.b ≠ g.b := let ⟨_, h1, _⟩ := h; h1.con.nod
/-- A change of the model leaves the disk. -/
theorem Disk.aside {w w' : World} {B p c pm : Nat} {s : St} {md : Md} (h : Disk w B p s c) (hM : MdAt w pm md) (hg : w.grownBy w' (some pm)) : Disk w' B p { s with rd := noR } c := by
  obtain ⟨vf, vn, vd, vp, hv⟩ := hM
  obtain ⟨m, h1, h2, h3⟩ := h.base (rd := noR) (Fr.none w)
  refine ⟨m, ⟨heap_stay h1.obj hg (fun e => ?_), h1.low, h1.con.other hv.obj hg (fun _ _ e => by cases e) (fun _ _ e => by injection e with _ e; exact absurd e (by decide)) (fun _ _ e => by injection e with _ e; exact absurd e (by decide)) (fun _ _ e => by injection e with _ e; exact absurd e (by decide)), Fr.none w'⟩, h2, h3⟩
  injection e with e
  have h4 := h1.obj
  rw [← e, hv.obj] at h4
  injection h4 with h4
  injection h4 with _ h4
  exact absurd h4 (by decide)
/-- What the walks hold: a disk, its model, and that they are alike. -/
structure Both (w : World) (B p pm c : Nat) (s : St) (md : Md) : Prop where
  d : Disk w B p s c
  m : MdAt w pm md
  k : Sim s md
  n : s.F.length ≤ c
  g : B ≤ pm
theorem Both.keep {w w' : World} {B p pm c : Nat} {s : St} {md : Md} (h : Both w B p pm c s md) (hb : Below w.heap.size w w') : Both w' B p pm c s md := ⟨h.d.keep hb, h.m.keep hb, h.k, h.n, h.g⟩
theorem Both.mono {w : World} {B p pm c c' : Nat} {s : St} {md : Md} (h : Both w B p pm c s md) (hc : c ≤ c') : Both w B p pm c' s md := ⟨h.d.mono hc, h.m, h.k, Nat.le_trans h.n hc, h.g⟩
theorem Both.here {w : World} {B p pm c : Nat} {s : St} {md : Md} (h : Both w B p pm c s md) : Both w B p pm c { s with rd := fun j => w.heap[j]? } md := ⟨h.d.here, h.m, h.k.base _, h.n, h.g⟩
end Go.Proofs.Ytbmogecnepgnaaa
