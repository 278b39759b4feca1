/- DiskLimits: the states. -/
import Derived.Test.YtbmogecnepgnaaaDab
import Derived.Test.YtbmogecnepgnaaaDba
namespace Go.Proofs.Ytbmogecnepgnaaa
open Go.RowKit Go.Maps Go.Shelf
def nmb (i : Nat) : ByteArray := ⟨#[98, UInt8.ofNat (48 + i / 10), UInt8.ofNat (48 + i % 10)]⟩
def bC : ByteArray := ⟨#[99]⟩
theorem flen_new (F : List Fl) (b : Nat) (d : Mp) : flen (F ++ [⟨b, [], 0⟩]) d = flen F d := by
  unfold flen
  split
  · rename_i z
    rw [List.find?_append]
    cases F.find? (fun f => decide ((f.b : Int) = z)) with
    | some x => rfl
    | none =>
      simp only [Option.none_or]
      rw [List.find?_singleton]
      split <;> rfl
  · rfl
theorem flen_fresh {F : List Fl} {b : Nat} (h : ∀ f ∈ F, f.b ≠ b) : flen F (pD b) = 0 := by
  unfold flen pD
  simp only
  rw [List.find?_eq_none.2 (fun f hf => by have := h f hf; simp; omega)]
  rfl
theorem sum_insert (G : Lit × Mp → Nat) (x : Lit × Mp) : ∀ es : List (Lit × Mp), ((DataW.insert x es).map G).sum = G x + (es.map G).sum
  | [] => by simp [DataW.insert]
  | y :: es => by
    unfold DataW.insert
    split
    · simp
    · simp only [List.map_cons, List.sum_cons, sum_insert G x es]
      omega
theorem filter_no {es : List (Lit × Mp)} {k : Lit} (h : Maps.has (.map es : Mp) k = false) : es.filter (fun p => !p.1.sameKey k) = es := by
  rw [has_eq] at h
  rw [List.filter_eq_self]
  intro p hp
  have := List.any_eq_false.1 h p hp
  simpa using this
theorem used_put {F : List Fl} {D : Mp} {k : Lit} {b : Nat} (hD : IsMap D) (hk : Maps.has D k = false) (hb : ∀ f ∈ F, f.b ≠ b) : usedD (F ++ [⟨b, [], 0⟩]) (D.put k (pD b)) = usedD F D := by
  obtain ⟨es, rfl⟩ := hD
  show ((DataW.insert (k, pD b) (es.filter fun p => !p.1.sameKey k)).map fun p => flen (F ++ [⟨b, [], 0⟩]) p.2).sum = (es.map fun p => flen F p.2).sum
  rw [filter_no hk, sum_insert]
  simp only [flen_new]
  rw [flen_fresh hb]
  omega
/-- A disk with i names. -/
structure LI (s : St) (n i : Nat) : Prop where
  dn : s.down = false
  lim : s.lim = false
  cap : s.cap = n
  us : usedD s.F s.D1 = n
  sz : Maps.size s.D1 = i
  ha : Maps.has s.D1 (kS bA) = true
  hn : ∀ j, i ≤ j → j < 64 → Maps.has s.D1 (kS (nmb j)) = false
  hc : Maps.has s.D1 (kS bC) = false
theorem nmb_file : ∀ i, i < 64 → fileB (nmb i) = true := by decide +kernel
theorem nmb_ne : ∀ i, i < 64 → ∀ j, j < 64 → i ≠ j → (nmb i).data.toList ≠ (nmb j).data.toList := by decide +kernel
theorem nmb_ac : ∀ i, i < 64 → (nmb i).data.toList ≠ bA.data.toList ∧ (nmb i).data.toList ≠ bC.data.toList := by decide +kernel
theorem kS_ne {a b : ByteArray} (h : a.data.toList ≠ b.data.toList) : kS a ≠ kS b := fun e => h (by injection e)
section
variable {s : St} {n i : Nat}
theorem LI.ap (h : LI s n i) (hi : i < 64) : ap0 s (nmb i) ⟨#[]⟩ = 0 := by
  unfold ap0
  rw [h.dn, nmb_file i hi, h.sz, h.cap, h.us, if_neg (by decide), if_neg (by decide), if_neg (by omega), if_neg (by show ¬ n < n + 0; omega)]
theorem LI.next (h : LI s n i) (hl : DL s) (hi : i < 64) {b : Nat} (hb : ∀ f ∈ s.F, f.b ≠ b) : apE s (nmb i) ⟨#[]⟩ = 0 ∧ LI (apS s (nmb i) ⟨#[]⟩ b) n (i + 1) := by
  have h0 := h.ap hi
  have hno := h.hn i (Nat.le_refl _) hi
  have hS : apS s (nmb i) ⟨#[]⟩ b = apN s (nmb i) ⟨#[]⟩ b := by
    unfold apS
    rw [if_pos h0, hno, if_neg (by decide)]
    unfold cntS
    rw [if_neg (by show ¬ s.lim = true; rw [h.lim]; decide)]
  rw [hS]
  refine ⟨?_, ⟨h.dn, h.lim, h.cap, ?_, ?_, ?_, fun j h1 h2 => ?_, ?_⟩⟩
  · unfold apE
    rw [if_pos h0]
    unfold cntE
    rw [if_neg (by rw [h.lim]; decide)]
  · show usedD (s.F ++ [⟨b, [], 0⟩]) (s.D1.put (kS (nmb i)) (pD b)) = n
    rw [used_put hl.t1.isMap hno hb, h.us]
  · show Maps.size (s.D1.put (kS (nmb i)) (pD b)) = i + 1
    rw [size_put hl.t1, hno, h.sz]
    rfl
  · show Maps.has (s.D1.put (kS (nmb i)) (pD b)) (kS bA) = true
    rw [has_put_other (kS_ne (Ne.symm (nmb_ac i hi).1)), h.ha]
  · show Maps.has (s.D1.put (kS (nmb i)) (pD b)) (kS (nmb j)) = false
    rw [has_put_other (kS_ne (nmb_ne j h2 i hi (by omega))), h.hn j (by omega) h2]
  · show Maps.has (s.D1.put (kS (nmb i)) (pD b)) (kS bC) = false
    rw [has_put_other (kS_ne (Ne.symm (nmb_ac i hi).2)), h.hc]
theorem LI.full (h : LI s n 64) : apE s bC ⟨#[]⟩ = 6 ∧ (∀ b, apS s bC ⟨#[]⟩ b = s) := by
  have h0 : ap0 s bC ⟨#[]⟩ = 6 := by
    unfold ap0
    rw [h.dn, h.sz, h.hc, if_neg (by decide), if_neg (by decide +kernel), if_pos ⟨rfl, Nat.le_refl _⟩]
  refine ⟨?_, fun b => ?_⟩
  · unfold apE; rw [h0]; rfl
  · unfold apS; rw [h0]; rfl
theorem updF_same {F : List Fl} {k : Nat} {g : Fl → Fl} (h : ∀ f, g f = f) : updF F k g = F := by
  unfold updF
  simp [h]
theorem LI.again (h : LI s n i) : apE s bA ⟨#[]⟩ = 0 ∧ (∀ b, apS s bA ⟨#[]⟩ b = s) := by
  have h0 : ap0 s bA ⟨#[]⟩ = 0 := by
    unfold ap0
    rw [h.dn, h.cap, h.us, h.ha, if_neg (by decide), if_neg (by decide +kernel), if_neg (by rintro ⟨h, _⟩; cases h), if_neg (by show ¬ n < n + 0; omega)]
  refine ⟨?_, fun b => ?_⟩
  · unfold apE
    rw [if_pos h0]
    unfold cntE
    rw [if_neg (by rw [h.lim]; decide)]
  · unfold apS
    rw [if_pos h0, h.ha, if_pos rfl]
    have e : apO s bA ⟨#[]⟩ = s := by
      unfold apO
      rw [updF_same (fun f => by show ({ f with bs := f.bs ++ [] } : Fl) = f; rw [List.append_nil])]
    rw [e]
    unfold cntS
    rw [if_neg (by rw [h.lim]; decide)]
theorem LI.over (h : LI s n i) : apE s bA ⟨#[120]⟩ = 33 ∧ (∀ b, apS s bA ⟨#[120]⟩ b = s) := by
  have h0 : ap0 s bA ⟨#[120]⟩ = 33 := by
    unfold ap0
    rw [h.dn, h.cap, h.us, h.ha, if_neg (by decide), if_neg (by decide +kernel), if_neg (by rintro ⟨h, _⟩; cases h), if_pos (by show n < n + 1; omega)]
  refine ⟨?_, fun b => ?_⟩
  · unfold apE; rw [h0]; rfl
  · unfold apS; rw [h0]; rfl
theorem LI.free (h : LI s n i) : frV s = 0 := by
  unfold frV
  rw [if_neg (by rw [h.dn]; decide), h.cap, h.us]
  omega
end
def L1 (n b : Nat) (o : ByteArray) : St := ⟨n, dA b, .map [], [.cre bA b], false, false, 0, [⟨b, o.data.toList, 0⟩]⟩
theorem l1 (n b : Nat) (o : ByteArray) (ho : o.size = n) : apE (newS n) bA o = 0 ∧ apS (newS n) bA o b = L1 n b o := by
  have h0 : ap0 (newS n) bA o = 0 := by
    unfold ap0 newS
    simp only
    rw [show usedD [] (.map []) = 0 from rfl, if_neg (show ¬ n < 0 + o.size by omega)]
    kernel_rfl
  refine ⟨?_, ?_⟩
  · unfold apE; rw [if_pos h0]; rfl
  · unfold apS; rw [if_pos h0]; rfl
theorem l1_li (n b : Nat) (o : ByteArray) (ho : o.size = n) : LI (L1 n b o) n 1 where
  dn := rfl
  lim := rfl
  cap := rfl
  us := by
    show usedD [⟨b, o.data.toList, 0⟩] (dA b) = n
    rw [flen_one]
    exact ho
  sz := rfl
  ha := rfl
  hn := fun j _ h2 => by
    show Maps.has (dA b) (kS (nmb j)) = false
    unfold dA
    rw [has_eq]
    show ((kS bA).sameKey (kS (nmb j)) || false) = false
    rw [sameKey_ne (kS_ne (Ne.symm (nmb_ac j h2).1))]
    rfl
  hc := rfl
theorem keys_len {D : Mp} (h : IsMap D) : (strKeys D).length = Maps.size D := by
  obtain ⟨es, rfl⟩ := h
  show (es.map _).length = es.length
  rw [List.length_map]
end Go.Proofs.Ytbmogecnepgnaaa
