/- DiskKeeps: what is kept. -/
import Derived.Test.YtbmogecnepgnaaaDaa
import Derived.Test.YtbmogecnepgnaaaDx
namespace Go.Proofs.Ytbmogecnepgnaaa
open Go.RowKit Go.Maps Go.Shelf
def bKept : ByteArray := ⟨#[107, 101, 112, 116]⟩
/-- The name leads to a file, and no other one does. -/
structure KD (D : Mp) (q : Nat) : Prop where
  t : Tidy D
  has : Maps.has D (kS bKept) = true
  at_ : D.atKey (kS bKept) zD = pD q
  oth : ∀ k, k ≠ kS bKept → D.atKey k zD ≠ pD q
def KO (q : Nat) : Opn → Prop
  | .cre a b => kS a ≠ kS bKept ∧ b ≠ q
  | .ren a b => kS a ≠ kS bKept ∧ kS b ≠ kS bKept
  | .rem a => kS a ≠ kS bKept
theorem zD_ne (q : Nat) : zD ≠ pD q := fun h => by
  unfold zD pD at h
  injection h with h
  injection h with _ h
  omega
theorem pD_ne {a b : Nat} (h : a ≠ b) : pD a ≠ pD b := fun e => h (by
  unfold pD at e
  injection e with e
  injection e with _ e
  omega)
theorem KD.put {D : Mp} {q : Nat} (h : KD D q) {k : Lit} (hk : k ≠ kS bKept) (hl : WideAt.IsKeyLit k) {d : Mp} (hd : d ≠ pD q) : KD (D.put k d) q where
  t := h.t.put hl d
  has := by rw [has_put_other (Ne.symm hk)]; exact h.has
  at_ := by rw [atKey_put_other (Ne.symm hk)]; exact h.at_
  oth := fun k' hk' => by
    by_cases e : k' = k
    · subst e; rw [atKey_put_same h.t.isMap hl]; exact hd
    · rw [atKey_put_other e]; exact h.oth k' hk'
theorem KD.del {D : Mp} {q : Nat} (h : KD D q) {k : Lit} (hk : k ≠ kS bKept) : KD (D.del k) q where
  t := h.t.del k
  has := by rw [has_del_other (Ne.symm hk)]; exact h.has
  at_ := by rw [atKey_del_other (Ne.symm hk)]; exact h.at_
  oth := fun k' hk' => by
    by_cases e : k' = k
    · subst e; rw [atKey_del_same]; exact zD_ne q
    · rw [atKey_del_other e]; exact h.oth k' hk'
theorem KD.app {D : Mp} {q : Nat} (h : KD D q) {o : Opn} (ho : KO q o) : KD (appO o D) q := by
  cases o with
  | cre a b => exact h.put ho.1 (keyLit a) (pD_ne ho.2)
  | ren a b => exact (h.del ho.1).put ho.2 (keyLit b) (h.oth _ ho.1)
  | rem a => exact h.del ho
theorem KD.run {q : Nat} : ∀ (l : List Opn) {D : Mp}, KD D q → (∀ o ∈ l, KO q o) → KD (runO D l) q
  | [], _, h, _ => h
  | o :: l, _, h, ho => KD.run l (h.app (ho o List.mem_cons_self)) fun o' h' => ho o' (List.mem_cons_of_mem _ h')
/-- What is kept: the file is whole and durable, and so is its name. -/
structure KI (s : St) (q : Nat) (bs : List UInt8) : Prop where
  f : (⟨q, bs, bs.length⟩ : Fl) ∈ s.F
  d : KD s.D2 q
  o : ∀ o ∈ s.ops, KO q o
section
variable {s : St} {q : Nat} {bs : List UInt8}
theorem KI.D1 (h : KI s q bs) (hl : DL s) : KD s.D1 q := by
  rw [← hl.run]
  exact KD.run _ h.d h.o
theorem KI.cnt (h : KI s q bs) : KI (cntS s) q bs := by
  unfold cntS
  split
  · split <;> exact ⟨h.f, h.d, h.o⟩
  · exact h
theorem KI.file (h : KI s q bs) {k : Nat} (hk : k ≠ q) (g : Fl → Fl) : KI { s with F := updF s.F k g } q bs :=
  { h with f := List.mem_map.2 ⟨_, h.f, if_neg (Ne.symm hk)⟩ }
theorem KI.blk (h : KI s q bs) (hl : DL s) {n : ByteArray} (hn : kS n ≠ kS bKept) (hh : Maps.has s.D1 (kS n) = true) : blk s n ≠ q := by
  obtain ⟨f, _, e⟩ := hl.r1 _ hh
  rw [blk_of e]
  intro e2
  rw [e2] at e
  exact (h.D1 hl).oth _ hn e
theorem KI.op (h : KI s q bs) {o : Opn} (ho : KO q o) : KI (opS s o) q bs := by
  unfold opS
  refine KI.cnt (s := { s with D1 := appO o s.D1, ops := s.ops ++ [o] }) ⟨h.f, h.d, fun o' h' => ?_⟩
  rcases List.mem_append.1 h' with h' | h'
  · exact h.o o' h'
  · rw [List.mem_singleton.1 h']; exact ho
theorem KI.append (h : KI s q bs) (hl : DL s) {n d : ByteArray} (hn : kS n ≠ kS bKept) {b : Nat} (hb : ap0 s n d = 0 → ∀ f ∈ s.F, f.b ≠ b) : KI (apS s n d b) q bs := by
  unfold apS
  split
  · rename_i h0
    refine KI.cnt ?_
    split
    · rename_i hh
      exact h.file (h.blk hl hn hh) _
    · have hq : b ≠ q := fun e => hb h0 _ h.f e.symm
      refine ⟨List.mem_append_left _ h.f, h.d, fun o' h' => ?_⟩
      rcases List.mem_append.1 h' with h' | h'
      · exact h.o o' h'
      · rw [List.mem_singleton.1 h']; exact ⟨hn, hq⟩
  · exact h
theorem KI.sync (h : KI s q bs) (hl : DL s) {n : ByteArray} (hn : kS n ≠ kS bKept) : KI (syS s n) q bs := by
  unfold syS
  split
  · rename_i h0
    split
    · have h2 := h.cnt
      have h3 := h.blk hl hn (fnd_has h0).1
      have := h2.file h3 fun f => { f with dur := f.bs.length }
      rw [(cntS_F s).1] at this
      exact this
    · exact h.cnt
  · exact h
theorem KI.rename (h : KI s q bs) {a b : ByteArray} (ha : kS a ≠ kS bKept) (hb : kS b ≠ kS bKept) : KI (rnS s a b) q bs := by
  unfold rnS
  split
  · split
    · exact h.op ⟨ha, hb⟩
    · exact h
  · exact h
theorem KI.remove (h : KI s q bs) {a : ByteArray} (ha : kS a ≠ kS bKept) : KI (rmS s a) q bs := by
  unfold rmS
  split
  · exact h.op ha
  · exact h
theorem KI.publish (h : KI s q bs) (hl : DL s) : KI (puS s) q bs := by
  unfold puS
  split
  · exact h
  · split
    · exact ⟨by rw [(cntS_F s).1]; exact h.f, h.D1 hl, fun o ho => by cases ho⟩
    · exact h.cnt
theorem KI.limit (h : KI s q bs) (n : Int) : KI (liS s n) q bs := by
  unfold liS
  split
  · exact h
  · exact ⟨h.f, h.d, h.o⟩
theorem KI.start (h : KI s q bs) (l : List Int) (ss : List (List UInt8)) : KI (stS s l ss) q bs :=
  ⟨fold_keep (f := ⟨q, bs, bs.length⟩) rfl ss (s.F, 1) h.f, KD.run _ h.d fun o ho => h.o o (List.mem_of_mem_take ho), fun o ho => by cases ho⟩
/-- What an act does. -/
def acM (s : St) (x : Ac) (l : List Int) (e : Int) (s' : St) (k : Nat) : Prop :=
  match k with
  | 1 => e = syE s x.name ∧ s' = syS s x.name
  | 2 => e = rnE s x.name x.dst ∧ s' = rnS s x.name x.dst
  | 3 => e = rmE s x.name ∧ s' = rmS s x.name
  | 4 => e = puE s ∧ s' = puS s
  | 5 => e = chk s ∧ s' = liS s x.num
  | 6 => e = 0 ∧ s' = { s with down := true }
  | 7 => e = 0 ∧ if s.down then ∃ ss : List (List UInt8), ss.Perm (strKeys (stD s l)) ∧ ss.Pairwise (fun a b => decide (a ≤ b) = true) ∧ s' = stS s l ss else s' = s
  | _ => ∃ b, (ap0 s x.name x.dst = 0 → ∀ f ∈ s.F, f.b ≠ b) ∧ e = apE s x.name x.dst ∧ s' = apS s x.name x.dst b
def AcR (s : St) (x : Ac) (l : List Int) (e : Int) (s' : St) : Prop := acM s x l e s' (x.kind % 11)
theorem KI.act (h : KI s q bs) (hl : DL s) {x : Ac} {l : List Int} {e : Int} {s' : St} (hx : kS x.name ≠ kS bKept) (hd : kS x.dst ≠ kS bKept) (hr : AcR s x l e s') : KI s' q bs := by
  unfold AcR acM at hr
  split at hr
  · rw [hr.2]; exact h.sync hl hx
  · rw [hr.2]; exact h.rename hx hd
  · rw [hr.2]; exact h.remove hx
  · rw [hr.2]; exact h.publish hl
  · rw [hr.2]; exact h.limit _
  · rw [hr.2]; exact ⟨h.f, h.d, h.o⟩
  · have h2 := hr.2
    split at h2
    · obtain ⟨ss, _, _, rfl⟩ := h2
      exact h.start l ss
    · rw [h2]; exact h
  · obtain ⟨b, hb, _, rfl⟩ := hr
    exact h.append hl hx hb
theorem KI.read {w : World} {B p c : Nat} (h : KI s q bs) (hD : Disk w B p s c) (hdn : s.down = false) : fndE s bKept = 0 ∧ rdV s bKept = ⟨bs.toArray⟩ := by
  obtain ⟨m, h1, hl, _⟩ := hD
  have hK := h.D1 hl
  have h0 : fndE s bKept = 0 := by
    unfold fndE
    rw [if_neg (by rw [hdn]; decide)]
    exact if_pos hK.has
  refine ⟨h0, ?_⟩
  unfold rdV
  rw [if_pos h0, bytesAt_of h1.con.nod h.f hK.at_]
end
def KN1 (b : Nat) (o : ByteArray) : St := ⟨1000, .map [(kS bKept, pD b)], .map [], [.cre bKept b], false, false, 0, [⟨b, o.data.toList, 0⟩], noR⟩
def KN2 (b : Nat) (o : ByteArray) : St := ⟨1000, .map [(kS bKept, pD b)], .map [], [.cre bKept b], false, false, 0, [⟨b, o.data.toList, o.data.toList.length⟩], noR⟩
def KN3 (b : Nat) (o : ByteArray) : St := ⟨1000, .map [(kS bKept, pD b)], .map [(kS bKept, pD b)], [], false, false, 0, [⟨b, o.data.toList, o.data.toList.length⟩], noR⟩
theorem kn1 (b : Nat) (o : ByteArray) (ho : o.size ≤ 50) : apE (newS 1000) bKept o = 0 ∧ apS (newS 1000) bKept o b = KN1 b o := by
  have h0 : ap0 (newS 1000) bKept o = 0 := by
    unfold ap0 newS
    simp only
    rw [show usedD [] (.map []) = 0 from rfl, if_neg (show ¬ 1000 < 0 + o.size by omega)]
    kernel_rfl
  refine ⟨?_, ?_⟩
  · unfold apE; rw [if_pos h0]; rfl
  · unfold apS; rw [if_pos h0]; rfl
theorem kn2 (b : Nat) (o : ByteArray) : syE (KN1 b o) bKept = 0 ∧ syS (KN1 b o) bKept = KN2 b o := by
  refine ⟨by kernel_rfl, ?_⟩
  show ({ KN1 b o with F := updF (KN1 b o).F b fun f => { f with dur := f.bs.length } } : St) = KN2 b o
  unfold KN1
  simp only
  rw [updF_one]
  rfl
theorem kn3 (b : Nat) (o : ByteArray) : puE (KN2 b o) = 0 ∧ puS (KN2 b o) = KN3 b o := ⟨by kernel_rfl, by kernel_rfl⟩
theorem kn_ki (b : Nat) (o : ByteArray) : KI (KN3 b o) b o.data.toList where
  f := List.mem_cons_self
  d := {
    t := ⟨_, rfl, List.pairwise_singleton _ _⟩
    has := rfl
    at_ := rfl
    oth := fun k hk => by
      show (DataW.map [(kS bKept, pD b)] : Mp).atKey k zD ≠ pD b
      rw [atKey_of_not_has (by
        rw [has_eq]
        show ((kS bKept).sameKey k || false) = false
        rw [sameKey_ne (Ne.symm hk)]
        rfl)]
      exact zD_ne b }
  o := fun o ho => by cases ho
end Go.Proofs.Ytbmogecnepgnaaa
