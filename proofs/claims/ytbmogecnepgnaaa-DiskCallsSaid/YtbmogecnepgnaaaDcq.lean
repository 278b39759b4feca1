/- The disk and its model: what they do. -/
import Derived.Test.YtbmogecnepgnaaaDcp
import Derived.Test.YtbmogecnepgnaaaDco
import Derived.Test.YtbmogecnepgnaaaDbb
namespace Go.Proofs.Ytbmogecnepgnaaa
open Go.RowKit Go.Maps Go.Shelf
theorem isE_file {n : ByteArray} (h : fileB n = true) : isE n = false := by
  unfold isE
  refine decide_eq_false fun e => ?_
  unfold fileB at h
  rw [Bool.and_eq_true, Bool.and_eq_true] at h
  have h1 : 0 < n.size := of_decide_eq_true h.1.1
  have h2 : n.data.toList.length = n.size := rfl
  rw [e] at h2
  simp at h2
  omega
theorem isE_nil : isE ⟨#[]⟩ = true := rfl
/-- A pending operation, and its change. -/
def OR (F : List Fl) (D : Mp) : Opn → Chg → Prop
  | .cre n b, c => c.1 = ⟨#[]⟩ ∧ c.2.1 = n ∧ fileB n = true ∧ ∃ f, F[c.2.2]? = some f ∧ f.b = b
  | .ren a b, c => c.1 = a ∧ c.2.1 = b ∧ fileB a = true ∧ fileB b = true ∧ ∃ f, F[c.2.2]? = some f ∧ D.atKey (kS a) zD = pD f.b
  | .rem a, c => c.1 = a ∧ c.2.1 = ⟨#[]⟩ ∧ fileB a = true
theorem OR.mono {F F' : List Fl} {D : Mp} {o : Opn} {c : Chg} (h : OR F D o c) (hF : ∀ (i : Nat) (f : Fl), F[i]? = some f → ∃ f' : Fl, F'[i]? = some f' ∧ f'.b = f.b) : OR F' D o c := by
  cases o with
  | cre n b =>
    obtain ⟨h1, h2, h3, f, h4, h5⟩ := h
    obtain ⟨f', h6, h7⟩ := hF _ _ h4
    exact ⟨h1, h2, h3, f', h6, h7.trans h5⟩
  | ren a b =>
    obtain ⟨h1, h2, h3, h3', f, h4, h5⟩ := h
    obtain ⟨f', h6, h7⟩ := hF _ _ h4
    exact ⟨h1, h2, h3, h3', f', h6, by rw [h7]; exact h5⟩
  | rem a => exact h
theorem OR.step {F : List Fl} {D : Mp} {l : List Ent} {o : Opn} {c : Chg} (h : NR F D l) (ho : OR F D o c) : NR F (appO o D) (changedM l c) := by
  cases o with
  | cre n b =>
    obtain ⟨h1, h2, h3, f, h4, rfl⟩ := ho
    unfold changedM
    simp only
    rw [h1, h2, isE_nil, if_pos rfl, isE_file h3, if_neg (by decide)]
    exact h.put h3 h4
  | ren a b =>
    obtain ⟨h1, h2, h3, h3', f, h4, h5⟩ := ho
    unfold changedM
    simp only
    rw [h1, h2, isE_file h3, isE_file h3', if_neg (by decide), if_neg (by decide)]
    show NR F ((D.del (kS a)).put (kS b) (D.atKey (kS a) zD)) _
    rw [h5]
    exact (h.del a).put h3' h4
  | rem a =>
    obtain ⟨h1, h2, h3⟩ := ho
    unfold changedM
    simp only
    rw [h1, h2, isE_file h3, isE_nil, if_pos rfl, if_neg (by decide)]
    exact h.del a
def PR (F : List Fl) : Mp → List Opn → List Chg → Prop
  | _, [], [] => True
  | D, o :: os, c :: cs => OR F D o c ∧ PR F (appO o D) os cs
  | _, _, _ => False
theorem PR.mono {F F' : List Fl} (hF : ∀ (i : Nat) (f : Fl), F[i]? = some f → ∃ f' : Fl, F'[i]? = some f' ∧ f'.b = f.b) : ∀ {ops : List Opn} {cs : List Chg} {D : Mp}, PR F D ops cs → PR F' D ops cs
  | [], [], _, _ => trivial
  | _ :: _, _ :: _, _, h => ⟨h.1.mono hF, PR.mono hF h.2⟩
  | [], _ :: _, _, h => h.elim
  | _ :: _, [], _, h => h.elim
theorem PR.snoc {F : List Fl} : ∀ {ops : List Opn} {cs : List Chg} {D : Mp} {o : Opn} {c : Chg}, PR F D ops cs → OR F (runO D ops) o c → PR F D (ops ++ [o]) (cs ++ [c])
  | [], [], _, _, _, _, h => ⟨h, trivial⟩
  | _ :: _, _ :: _, _, _, _, h, k => ⟨h.1, PR.snoc h.2 k⟩
  | [], _ :: _, _, _, _, h, _ => h.elim
  | _ :: _, [], _, _, _, h, _ => h.elim
theorem PR.len {F : List Fl} : ∀ {ops : List Opn} {cs : List Chg} {D : Mp}, PR F D ops cs → cs.length = ops.length
  | [], [], _, _ => rfl
  | _ :: _, _ :: _, _, h => by rw [List.length_cons, List.length_cons, PR.len h.2]
  | [], _ :: _, _, h => h.elim
  | _ :: _, [], _, h => h.elim
theorem PR.take {F : List Fl} : ∀ (n : Nat) {ops : List Opn} {cs : List Chg} {D : Mp} {l : List Ent}, NR F D l → PR F D ops cs → NR F (runO D (ops.take n)) ((cs.take n).foldl changedM l)
  | 0, _, _, _, _, h, _ => by rw [List.take_zero, List.take_zero]; exact h
  | _ + 1, [], [], _, _, h, _ => h
  | n + 1, o :: os, c :: cs, D, l, h, k => by
    rw [List.take_succ_cons, List.take_succ_cons]
    exact PR.take n (k.1.step h) k.2
  | _ + 1, [], _ :: _, _, _, _, k => k.elim
  | _ + 1, _ :: _, [], _, _, _, k => k.elim
theorem PR.px {F : List Fl} : ∀ {ops : List Opn} {cs : List Chg} {D : Mp}, PR F D ops cs → ∀ c ∈ cs, isE c.2.1 = false → c.2.2 < F.length
  | [], [], _, _, _, h, _ => by cases h
  | o :: os, c :: cs, D, h, c', hc, hE => by
    rcases List.mem_cons.1 hc with rfl | hc
    · have h1 := h.1
      cases o with
      | cre n b => obtain ⟨_, _, _, f, h4, _⟩ := h1; exact (List.getElem?_eq_some_iff.1 h4).1
      | ren a b => obtain ⟨_, _, _, _, f, h4, _⟩ := h1; exact (List.getElem?_eq_some_iff.1 h4).1
      | rem a => rw [h1.2.1, isE_nil] at hE; cases hE
    · exact PR.px h.2 c' hc hE
  | [], _ :: _, _, h, _, _, _ => h.elim
  | _ :: _, [], _, h, _, _, _ => h.elim
/-- A disk, and its model. -/
structure Sim (s : St) (md : Md) : Prop where
  cap : md.cap = s.cap
  down : md.down = s.down
  lim : md.lim = if s.lim then (s.left : Int) else -1
  fl : md.files = s.F.map entF
  nm : NR s.F s.D1 md.names
  dm : NR s.F s.D2 md.dur
  pd : PR s.F s.D2 s.ops md.pend
theorem Sim.cntE {s : St} {md : Md} (h : Sim s md) : (if flB md = true then (32 : Int) else 0) = cntE s := by
  have hl := h.lim
  unfold flB Go.Proofs.Ytbmogecnepgnaaa.cntE
  by_cases h1 : s.lim = true
  · rw [if_pos h1] at hl ⊢
    by_cases h2 : s.left = 0
    · rw [if_pos h2, if_pos (decide_eq_true (by rw [hl, h2]; rfl))]
    · rw [if_neg h2, if_neg (by rw [decide_eq_false (by rw [hl]; omega)]; decide)]
  · rw [if_neg h1] at hl ⊢
    rw [if_neg (by rw [decide_eq_false (by rw [hl]; decide)]; decide)]
/-- An operation is counted. -/
theorem cnt_sim {s : St} {md : Md} (h1 : md.down = s.down) (h2 : md.lim = if s.lim then (s.left : Int) else -1) : (flS md).down = (cntS s).down ∧ (flS md).lim = if (cntS s).lim then ((cntS s).left : Int) else -1 := by
  unfold flS cntS
  by_cases hl : s.lim = true
  · rw [if_pos hl] at h2 ⊢
    by_cases h0 : s.left = 0
    · rw [if_pos h0, if_pos (by rw [h2, h0]; rfl)]
      exact ⟨rfl, by show md.lim = if s.lim = true then (s.left : Int) else -1; rw [if_pos hl, h2]⟩
    · rw [if_neg h0, if_neg (by rw [h2]; omega), if_pos (by rw [h2]; omega)]
      refine ⟨h1, ?_⟩
      show md.lim - 1 = if s.lim = true then ((s.left - 1 : Nat) : Int) else -1
      rw [if_pos hl, h2]
      omega
  · rw [if_neg hl] at h2 ⊢
    rw [if_neg (by rw [h2]; decide), if_neg (by rw [h2]; decide)]
    exact ⟨h1, by rw [if_neg hl, h2]⟩
theorem Sim.cnt {s : St} {md : Md} (h : Sim s md) : Sim (cntS s) (flS md) := by
  obtain ⟨f1, f2, f3, f4, f5⟩ := cntS_F s
  obtain ⟨g1, g2, g3, g4, g5⟩ := flS_keep md
  obtain ⟨c1, c2⟩ := cnt_sim h.down h.lim
  exact ⟨by rw [g5, f5, h.cap], c1, c2, by rw [g1, f1, h.fl], by rw [f1, f2, g2]; exact h.nm, by rw [f1, f3, g3]; exact h.dm, by rw [f1, f3, f4, g4]; exact h.pd⟩
/-- A file turns. -/
theorem upd_map {F : List Fl} (hn : F.Pairwise fun f g => f.b ≠ g.b) {i : Nat} {f : Fl} (hf : F[i]? = some f) (g : Fl → Fl) : (updF F f.b g).map entF = (F.map entF).set i (entF (g f)) := by
  refine List.ext_getElem? fun j => ?_
  unfold updF
  rw [List.map_map, List.getElem?_map, List.getElem?_set, List.length_map, List.getElem?_map]
  have hi := (List.getElem?_eq_some_iff.1 hf).1
  by_cases h : i = j
  · subst h
    rw [if_pos rfl, if_pos hi, hf]
    show some (entF (if f.b = f.b then g f else f)) = _
    rw [if_pos rfl]
  · rw [if_neg h]
    cases hj : F[j]? with
    | none => rfl
    | some x =>
      have hne : x.b ≠ f.b := fun e => by
        have h1 : x = f := nod_eq hn (List.mem_of_getElem? hj) (List.mem_of_getElem? hf) e
        subst h1
        have hp := List.pairwise_iff_getElem.1 hn
        have hjl := (List.getElem?_eq_some_iff.1 hj).1
        have e1 : F[i] = x := (List.getElem?_eq_some_iff.1 hf).2
        have e2 : F[j] = x := (List.getElem?_eq_some_iff.1 hj).2
        rcases Nat.lt_or_gt_of_ne h with hij | hij
        · exact hp i j hi hjl hij (by rw [e1, e2])
        · exact hp j i hjl hi hij (by rw [e1, e2])
      show some (entF (if x.b = f.b then g x else x)) = _
      rw [if_neg hne]
      rfl
theorem upd_keep {F : List Fl} {k : Nat} {g : Fl → Fl} (hg : ∀ f, (g f).b = f.b) : ∀ (i : Nat) (f : Fl), F[i]? = some f → ∃ f' : Fl, (updF F k g)[i]? = some f' ∧ f'.b = f.b := fun i f hf => by
  refine ⟨if f.b = k then g f else f, by unfold updF; rw [List.getElem?_map, hf]; rfl, ?_⟩
  split
  · exact hg f
  · rfl
theorem app_keep {F : List Fl} {x : Fl} : ∀ (i : Nat) (f : Fl), F[i]? = some f → ∃ f' : Fl, (F ++ [x])[i]? = some f' ∧ f'.b = f.b := fun i f hf =>
  ⟨f, by rw [List.getElem?_append_left (List.getElem?_eq_some_iff.1 hf).1]; exact hf, rfl⟩
end Go.Proofs.Ytbmogecnepgnaaa
