/- The configurations of the program and the sets of the reference are the same; conflicts are least; a choice with one literal more. -/
import Derived.Test.YtmfmpkihmadjmaaVw
import Derived.Test.YtmfmpkihmadjmaaVr
import Derived.Test.YtmfmpkihmadjmaaVu
import Derived.Test.YtmfmpkihmadjmaaVai
namespace Go.Proofs.Ytmfmpkihmadjmaa
open Go.RowKit Go.Shelf
/-- Number k, as a set. -/
def sOf (n k : Nat) : Nat := setU n (2 ^ n - 1 - k) n
/-- The same options are in the configuration and in the set of the same number. -/
theorem cfg_set : ∀ n, n < 7 → ∀ k, k < 2 ^ n → ∀ i, i < n → (cfg n k).testBit (11 - i) = (sOf n k).testBit i := by decide +kernel
theorem lit_same {n k : Nat} (hn : n ≤ 6) (hk : k < 2 ^ n) {l : Nat × Bool} (hl : l.1 < n) : litB (cfg n k) l = litR (sOf n k) l := by
  unfold litB litR
  rw [cfg_set n (by omega) k hk l.1 hl]
/-- The rules that are not left out. -/
def eff : List (ByteArray × List (Nat × Bool)) → List Bool → List (ByteArray × List (Nat × Bool))
  | r :: rs, o :: out => if o then eff rs out else r :: eff rs out
  | _, _ => []
theorem brk_iff (rs : List (ByteArray × List (Nat × Bool))) (out : List Bool) (s : Nat) : brkR rs out s < 0 ↔ ∀ i, i < rs.length → badR rs out s i = false := by
  unfold brkR
  constructor
  · intro h i hi
    split at h
    · rename_i j hj; omega
    · rename_i hj
      rw [List.find?_eq_none] at hj
      simpa using hj i (List.mem_range.2 hi)
  · intro h
    rw [List.find?_eq_none.2 (fun i hi => by rw [h i (List.mem_range.1 hi)]; decide)]
    decide
theorem eff_all (p : ByteArray × List (Nat × Bool) → Bool) : ∀ (rs : List (ByteArray × List (Nat × Bool))) (out : List Bool), out.length = rs.length → ((eff rs out).all p = true ↔ ∀ i, i < rs.length → (!(out.getD i true) && !(p (rs.getD i (ByteArray.empty, [])))) = false)
  | [], [], _ => by simp [eff]
  | [], _ :: _, h => by cases h
  | _ :: _, [], h => by cases h
  | r :: rs, o :: out, h => by
    have ih := eff_all p rs out (by simpa using h)
    have hs : (∀ i, i < (r :: rs).length → (!((o :: out).getD i true) && !(p ((r :: rs).getD i (ByteArray.empty, [])))) = false) ↔ ((!o && !(p r)) = false ∧ ∀ i, i < rs.length → (!(out.getD i true) && !(p (rs.getD i (ByteArray.empty, [])))) = false) := by
      constructor
      · intro h
        refine ⟨by simpa using h 0 (by simp), fun i hi => ?_⟩
        have := h (i + 1) (by simpa using hi)
        simpa using this
      · rintro ⟨h0, h1⟩ i hi
        cases i with
        | zero => simpa using h0
        | succ i => simpa using h1 i (by simpa using hi)
    rw [hs, ← ih]
    cases o
    · simp [eff]
    · simp [eff]
theorem okR_eff {rs : List (ByteArray × List (Nat × Bool))} {out : List Bool} (h : out.length = rs.length) (ch : List (Nat × Bool)) (s : Nat) : okR rs out ch s = (ch.all (litR s) && (eff rs out).all fun r => r.2.any (litR s)) := by
  have h1 := eff_all (fun r => r.2.any (litR s)) rs out h
  have h2 := brk_iff rs out s
  unfold badR at h2
  unfold okR
  congr 1
  rw [Bool.eq_iff_iff, decide_eq_true_eq, h2, h1]
theorem eff_mem {rs : List (ByteArray × List (Nat × Bool))} {out : List Bool} : ∀ r, r ∈ eff rs out → r ∈ rs := by
  induction rs generalizing out with
  | nil => intro r h; simp [eff] at h
  | cons x rs ih =>
    intro r h
    cases out with
    | nil => simp [eff] at h
    | cons o out =>
      rw [eff] at h
      split at h
      · exact List.mem_cons_of_mem _ (ih r h)
      · rcases List.mem_cons.1 h with h | h
        · exact h ▸ List.mem_cons_self ..
        · exact List.mem_cons_of_mem _ (ih r h)
/-- All literals are of the first n options. -/
def LowN (n : Nat) (ls : List (Nat × Bool)) : Prop := ∀ l ∈ ls, l.1 < n
theorem all_same {n k : Nat} (hn : n ≤ 6) (hk : k < 2 ^ n) {ls : List (Nat × Bool)} (hl : LowN n ls) : ls.all (litB (cfg n k)) = ls.all (litR (sOf n k)) := by
  rw [Bool.eq_iff_iff, List.all_eq_true, List.all_eq_true]
  exact ⟨fun h x hx => lit_same hn hk (hl x hx) ▸ h x hx, fun h x hx => (lit_same hn hk (hl x hx)).symm ▸ h x hx⟩
theorem any_same {n k : Nat} (hn : n ≤ 6) (hk : k < 2 ^ n) {ls : List (Nat × Bool)} (hl : LowN n ls) : ls.any (litB (cfg n k)) = ls.any (litR (sOf n k)) := by
  rw [Bool.eq_iff_iff, List.any_eq_true, List.any_eq_true]
  exact ⟨fun ⟨x, hx, h⟩ => ⟨x, hx, lit_same hn hk (hl x hx) ▸ h⟩, fun ⟨x, hx, h⟩ => ⟨x, hx, (lit_same hn hk (hl x hx)).symm ▸ h⟩⟩
theorem ok_same {n k : Nat} (hn : n ≤ 6) (hk : k < 2 ^ n) {rs : List (ByteArray × List (Nat × Bool))} {out : List Bool} {ch : List (Nat × Bool)} (ho : out.length = rs.length) (hr : ∀ r ∈ rs, LowN n r.2) (hc : LowN n ch) : okB (eff rs out) ch (cfg n k) = okR rs out ch (sOf n k) := by
  rw [okR_eff ho, okB, all_same hn hk hc]
  congr 1
  rw [Bool.eq_iff_iff, List.all_eq_true, List.all_eq_true]
  have h : ∀ r ∈ eff rs out, satB (cfg n k) r = r.2.any (litR (sOf n k)) := fun r h => any_same hn hk (hr r (eff_mem r h))
  exact ⟨fun h1 x hx => h x hx ▸ h1 x hx, fun h1 x hx => (h x hx).symm ▸ h1 x hx⟩
/-- The numbers of the allowed configurations. -/
def KS (n : Nat) (rs : List (ByteArray × List (Nat × Bool))) (ch : List (Nat × Bool)) : List Nat := (List.range (2 ^ n)).filter fun k => okB rs ch (cfg n k)
theorem AL_ks (n : Nat) (rs : List (ByteArray × List (Nat × Bool))) (ch : List (Nat × Bool)) : AL n rs ch = (KS n rs ch).map (cfg n) := by
  unfold AL alU KS
  rw [List.filter_map]
  rfl
theorem ALR_ks {n : Nat} (hn : n ≤ 6) {rs : List (ByteArray × List (Nat × Bool))} {out : List Bool} {ch : List (Nat × Bool)} (ho : out.length = rs.length) (hr : ∀ r ∈ rs, LowN n r.2) (hc : LowN n ch) : ALR n rs out ch = (KS n (eff rs out) ch).map (sOf n) := by
  unfold ALR setsN setsU KS
  rw [List.filter_map]
  congr 1
  refine List.filter_congr fun k hk => ?_
  exact (ok_same hn (List.mem_range.1 hk) ho hr hc).symm
theorem KS_lt {n : Nat} {rs : List (ByteArray × List (Nat × Bool))} {ch : List (Nat × Bool)} : ∀ k ∈ KS n rs ch, k < 2 ^ n := fun k hk => by
  unfold KS at hk
  exact List.mem_range.1 (List.mem_filter.1 hk).1
theorem eff_none (rs : List (ByteArray × List (Nat × Bool))) : eff rs (List.replicate rs.length false) = rs := by
  induction rs with
  | nil => rfl
  | cons r rs ih => simp [List.replicate_succ, eff, ih]
/-- The reference counts the same configurations. -/
theorem AL_len {n : Nat} (hn : n ≤ 6) {rs : List (ByteArray × List (Nat × Bool))} {ch : List (Nat × Bool)} (hr : ∀ r ∈ rs, LowN n r.2) (hc : LowN n ch) : (ALR n rs (List.replicate rs.length false) ch).length = (AL n rs ch).length := by
  rw [ALR_ks hn (by simp) hr hc, AL_ks, eff_none, List.length_map, List.length_map]
/-- The names of the first one. -/
theorem fst_same {n : Nat} (hn : n ≤ 6) (os : List ByteArray) {rs : List (ByteArray × List (Nat × Bool))} {ch : List (Nat × Bool)} (hr : ∀ r ∈ rs, LowN n r.2) (hc : LowN n ch) : fstL n os rs ch = match ALR n rs (List.replicate rs.length false) ch with
    | [] => []
    | s :: _ => nmU os (fun i => s.testBit i) n := by
  unfold fstL
  rw [ALR_ks hn (by simp) hr hc, AL_ks, eff_none]
  have h := @KS_lt n rs ch
  revert h
  cases KS n rs ch with
  | nil => intro _; rfl
  | cons k ks =>
    intro h
    show nmU os (fun i => (cfg n k).testBit (11 - i)) n = nmU os (fun i => (sOf n k).testBit i) n
    unfold nmU
    congr 1
    refine List.filter_congr fun i hi => ?_
    exact cfg_set n (by omega) k (h k (List.mem_cons_self ..)) i (List.mem_range.1 hi)
theorem filterMap_same {α β : Type} {f g : α → Option β} : ∀ (l : List α), (∀ x ∈ l, f x = g x) → l.filterMap f = l.filterMap g
  | [], _ => rfl
  | a :: l, h => by
    rw [List.filterMap_cons, List.filterMap_cons, h a (List.mem_cons_self ..), filterMap_same l fun x hx => h x (List.mem_cons_of_mem _ hx)]
/-- What the reference says of forced options. -/
def frcR (l : List Nat) (j : Nat) : List (Nat × Bool) := (List.range j).filterMap fun i => if (l.all fun s => s.testBit i) || (l.all fun s => !s.testBit i) then some (i, l.all fun s => s.testBit i) else none
theorem cfg_lt' (n k : Nat) (hn : n ≤ 6) : cfg n k < 18446744073709551616 := by
  have h1 : cfg n k ≤ (2 ^ n - 1 - k) * 2 ^ 12 := Nat.mul_le_mul_left _ (Nat.pow_le_pow_right (by decide) (by omega))
  have h2 : 2 ^ n ≤ 2 ^ 6 := Nat.pow_le_pow_right (by decide) hn
  have h3 : (2 ^ n - 1 - k) * 2 ^ 12 ≤ 64 * 2 ^ 12 := Nat.mul_le_mul_right _ (by omega)
  omega
theorem frc_same {n : Nat} (hn : n ≤ 6) {rs : List (ByteArray × List (Nat × Bool))} {ch : List (Nat × Bool)} (hr : ∀ r ∈ rs, LowN n r.2) (hc : LowN n ch) : frcU ((AL n rs ch).map cF) n = frcR (ALR n rs (List.replicate rs.length false) ch) n := by
  rw [ALR_ks hn (by simp) hr hc, AL_ks, eff_none]
  unfold frcU frcR
  have h := @KS_lt n rs ch
  generalize KS n rs ch = ks at h ⊢
  have e : ∀ i, i < n → ∀ k ∈ ks, ((cF (cfg n k)).1.testBit (11 - i)) = (sOf n k).testBit i := fun i hi k hk => by
    rw [show (cF (cfg n k)).1 = cfg n k from Nat.mod_eq_of_lt (cfg_lt' n k hn)]
    exact cfg_set n (by omega) k (h k hk) i hi
  have key : ∀ i ∈ List.range n, (((ks.map (cfg n)).map cF).all fun c => c.1.testBit (11 - i)) = ((ks.map (sOf n)).all fun s => s.testBit i) ∧ (((ks.map (cfg n)).map cF).all fun c => !c.1.testBit (11 - i)) = ((ks.map (sOf n)).all fun s => !s.testBit i) := fun i hi => by
    have hi := List.mem_range.1 hi
    rw [List.map_map, List.all_map, List.all_map, List.all_map, List.all_map]
    constructor
    · rw [Bool.eq_iff_iff, List.all_eq_true, List.all_eq_true]
      exact ⟨fun h1 k hk => by have := h1 k hk; simp only [Function.comp] at this ⊢; rw [← e i hi k hk]; exact this, fun h1 k hk => by have := h1 k hk; simp only [Function.comp] at this ⊢; rw [e i hi k hk]; exact this⟩
    · rw [Bool.eq_iff_iff, List.all_eq_true, List.all_eq_true]
      exact ⟨fun h1 k hk => by have := h1 k hk; simp only [Function.comp] at this ⊢; rw [← e i hi k hk]; exact this, fun h1 k hk => by have := h1 k hk; simp only [Function.comp] at this ⊢; rw [e i hi k hk]; exact this⟩
  exact filterMap_same _ fun i hi => by rw [(key i hi).1, (key i hi).2]
/-- Leaving out rule number i of those that remain. -/
theorem eff_append : ∀ (a : List (ByteArray × List (Nat × Bool))) (x : List Bool) (b : List (ByteArray × List (Nat × Bool))) (y : List Bool), a.length = x.length → eff (a ++ b) (x ++ y) = eff a x ++ eff b y
  | [], [], b, y, _ => by simp [eff]
  | [], _ :: _, _, _, h => by cases h
  | _ :: _, [], _, _, h => by cases h
  | r :: a, o :: x, b, y, h => by
    have ih := eff_append a x b y (by simpa using h)
    cases o
    · simp [eff, ih]
    · simp [eff, ih]
/-- The rounds of both conflicts. -/
theorem cf_inv {n : Nat} (hn : n ≤ 6) {rs : List (ByteArray × List (Nat × Bool))} {ch : List (Nat × Bool)} (hr : ∀ r ∈ rs, LowN n r.2) (hc : LowN n ch) : ∀ i, i ≤ rs.length → (cfL n rs ch i).1 = (cfR n rs ch i).2 ∧ ∃ x, (cfR n rs ch i).1 = x ++ List.replicate (rs.length - i) false ∧ x.length = i ∧ (cfL n rs ch i).2 = eff (rs.take i) x
  | 0, _ => ⟨rfl, [], by simp [cfR], rfl, by simp [cfL, eff]⟩
  | i + 1, hi => by
    obtain ⟨h1, x, h2, h3, h4⟩ := cf_inv hn hr hc i (by omega)
    have hlt : i < rs.length := by omega
    have hg : rs[i]? = some rs[i] := List.getElem?_eq_getElem hlt
    have hset : ∀ b, (cfR n rs ch i).1.set i b = (x ++ [b]) ++ List.replicate (rs.length - (i + 1)) false := fun b => by
      rw [h2, List.set_append_right _ _ (by omega), h3, Nat.sub_self, show rs.length - i = (rs.length - (i + 1)) + 1 by omega, List.replicate_succ]
      simp
    have hrs : rs = rs.take (i + 1) ++ rs.drop (i + 1) := (List.take_append_drop _ _).symm
    have htk : rs.take (i + 1) = rs.take i ++ [rs[i]] := by rw [List.take_add_one, hg]; rfl
    have hx1 : ∀ b, eff (rs.take (i + 1)) (x ++ [b]) = eff (rs.take i) x ++ eff [rs[i]] [b] := fun b => by
      rw [htk]
      exact eff_append _ _ _ _ (by rw [List.length_take, h3]; omega)
    have heff : eff rs ((cfR n rs ch i).1.set i true) = (cfL n rs ch i).2 ++ rs.drop (i + 1) := by
      rw [hset]
      conv => lhs; arg 1; rw [hrs]
      rw [eff_append _ _ _ _ (by rw [List.length_take, List.length_append, h3]; simp; omega), hx1, h4]
      have : eff (rs.drop (i + 1)) (List.replicate (rs.length - (i + 1)) false) = rs.drop (i + 1) := by
        rw [← List.length_drop]; exact eff_none _
      rw [this]
      simp [eff]
    have hlen : ((cfR n rs ch i).1.set i true).length = rs.length := by
      rw [hset]; simp [h3]; omega
    have hal : ((ALR n rs ((cfR n rs ch i).1.set i true) ch).length = 0) ↔ ((AL n ((cfL n rs ch i).2 ++ rs.drop (i + 1)) ch).isEmpty = true) := by
      rw [ALR_ks hn hlen hr hc, AL_ks, heff, List.length_map, List.isEmpty_iff, List.map_eq_nil_iff, List.length_eq_zero_iff]
    rw [cfL, cfR, hg]
    by_cases he : (ALR n rs ((cfR n rs ch i).1.set i true) ch).length = 0
    · rw [if_pos he]
      simp only [hal.1 he, if_true]
      exact ⟨h1, x ++ [true], hset true, by simp [h3], by rw [hx1, h4]; simp [eff]⟩
    · have he' : (AL n ((cfL n rs ch i).2 ++ rs.drop (i + 1)) ch).isEmpty = false := by
        cases hb : (AL n ((cfL n rs ch i).2 ++ rs.drop (i + 1)) ch).isEmpty with
        | false => rfl
        | true => exact absurd (hal.2 hb) he
      rw [if_neg he]
      simp only [he', Bool.false_eq_true, if_false]
      refine ⟨by rw [h1], x ++ [false], by rw [List.set_set]; exact hset false, by simp [h3], by rw [hx1, h4]; simp [eff]⟩
theorem cf_same {n : Nat} (hn : n ≤ 6) {rs : List (ByteArray × List (Nat × Bool))} {ch : List (Nat × Bool)} (hr : ∀ r ∈ rs, LowN n r.2) (hc : LowN n ch) : (cfL n rs ch rs.length).1 = (cfR n rs ch rs.length).2 := (cf_inv hn hr hc _ (Nat.le_refl _)).1
theorem AL_nil {n : Nat} {rs : List (ByteArray × List (Nat × Bool))} {ch : List (Nat × Bool)} : AL n rs ch = [] ↔ ∀ k, k < 2 ^ n → okB rs ch (cfg n k) = false := by
  rw [AL_ks, List.map_eq_nil_iff]
  unfold KS
  rw [List.filter_eq_nil_iff]
  exact ⟨fun h k hk => by simpa using h k (List.mem_range.2 hk), fun h k hk => by simp [h k (List.mem_range.1 hk)]⟩
theorem AL_mono {n : Nat} {rs rs' : List (ByteArray × List (Nat × Bool))} {ch : List (Nat × Bool)} (hs : ∀ r ∈ rs', r ∈ rs) (h : AL n rs' ch = []) : AL n rs ch = [] := by
  rw [AL_nil] at h ⊢
  intro k hk
  have h1 := h k hk
  cases hb : okB rs ch (cfg n k) with
  | false => rfl
  | true =>
    unfold okB at hb h1
    rw [Bool.and_eq_true] at hb
    have h2 : rs'.all (satB (cfg n k)) = true := List.all_eq_true.2 fun r hr => List.all_eq_true.1 hb.2 r (hs r hr)
    rw [hb.1, h2] at h1
    cases h1
/-- The rules that a conflict keeps: their numbers, that they are in conflict, and that none can be left out. -/
theorem cfL_inv {n : Nat} {rs : List (ByteArray × List (Nat × Bool))} {ch : List (Nat × Bool)} (h0 : AL n rs ch = []) : ∀ i, i ≤ rs.length → (cfL n rs ch i).2 = (cfL n rs ch i).1.map (fun j => rs.getD j (ByteArray.empty, [])) ∧ (∀ j ∈ (cfL n rs ch i).1, j < i) ∧ AL n ((cfL n rs ch i).2 ++ rs.drop i) ch = [] ∧ ∀ s, s < (cfL n rs ch i).2.length → AL n ((cfL n rs ch i).2.eraseIdx s ++ rs.drop i) ch ≠ []
  | 0, _ => ⟨rfl, by simp [cfL], by simpa [cfL] using h0, by simp [cfL]⟩
  | i + 1, hi => by
    obtain ⟨h1, h2, h3, h4⟩ := cfL_inv h0 i (by omega)
    have hlt : i < rs.length := by omega
    have hg : rs[i]? = some rs[i] := List.getElem?_eq_getElem hlt
    have hd : rs.drop i = rs[i] :: rs.drop (i + 1) := List.drop_eq_getElem_cons hlt
    rw [cfL, hg]
    cases he : (AL n ((cfL n rs ch i).2 ++ rs.drop (i + 1)) ch).isEmpty with
    | true =>
      simp only [if_true]
      refine ⟨h1, fun j hj => Nat.lt_succ_of_lt (h2 j hj), List.isEmpty_iff.1 he, fun s hs hn => h4 s hs (AL_mono (fun r hr => ?_) hn)⟩
      rcases List.mem_append.1 hr with h | h
      · exact List.mem_append.2 (.inl h)
      · rw [hd]; exact List.mem_append.2 (.inr (List.mem_cons_of_mem _ h))
    | false =>
      simp only [Bool.false_eq_true, if_false]
      refine ⟨by rw [h1, List.map_append]; simp [hg], fun j hj => ?_, ?_, fun s hs => ?_⟩
      · rcases List.mem_append.1 hj with h | h
        · exact Nat.lt_succ_of_lt (h2 j h)
        · rw [List.mem_singleton.1 h]; exact Nat.lt_succ_self i
      · rw [hd] at h3
        rw [List.append_assoc]
        exact h3
      · rw [List.length_append, List.length_singleton] at hs
        by_cases hs' : s < (cfL n rs ch i).2.length
        · rw [List.eraseIdx_append_of_lt_length hs', List.append_assoc, List.singleton_append, ← hd]
          exact h4 s hs'
        · rw [show s = (cfL n rs ch i).2.length by omega, List.eraseIdx_append_of_length_le (Nat.le_refl _), Nat.sub_self]
          intro hn
          rw [show List.eraseIdx [rs[i]] 0 = [] from rfl, List.append_nil] at hn
          rw [hn] at he
          cases he
theorem cfL_end {n : Nat} {rs : List (ByteArray × List (Nat × Bool))} {ch : List (Nat × Bool)} (h0 : AL n rs ch = []) : (∀ j ∈ (cfL n rs ch rs.length).1, j < rs.length) ∧ AL n ((cfL n rs ch rs.length).1.map (fun j => rs.getD j (ByteArray.empty, []))) ch = [] ∧ ∀ s, s < (cfL n rs ch rs.length).1.length → AL n (((cfL n rs ch rs.length).1.map (fun j => rs.getD j (ByteArray.empty, []))).eraseIdx s) ch ≠ [] := by
  obtain ⟨h1, h2, h3, h4⟩ := cfL_inv h0 _ (Nat.le_refl _)
  rw [List.drop_length, List.append_nil, h1] at h3
  refine ⟨h2, h3, fun s hs => ?_⟩
  have := h4 s (by rw [h1, List.length_map]; exact hs)
  rw [List.drop_length, List.append_nil, h1] at this
  exact this
/-- A choice with one literal more. -/
def insO (c : List (Nat × Bool)) (o : Nat) (b : Bool) : Nat → List (Nat × Bool)
  | 0 => []
  | i + 1 => insO c o b i ++ c.filter (fun x => x.1 == i) ++ (if i = o then [(o, b)] else [])
theorem insO_mem (c : List (Nat × Bool)) (o : Nat) (b : Bool) : ∀ i x, x ∈ insO c o b i ↔ (x ∈ c ∧ x.1 < i) ∨ (x = (o, b) ∧ o < i)
  | 0, x => by simp [insO]
  | i + 1, x => by
    rw [insO, List.mem_append, List.mem_append, insO_mem c o b i x, List.mem_filter]
    have e : (x ∈ if i = o then [(o, b)] else []) ↔ (x = (o, b) ∧ i = o) := by
      split
      · rename_i h; simp [h]
      · rename_i h; simp [h]
    rw [e, beq_iff_eq]
    constructor
    · intro h
      rcases h with ((⟨h1, h2⟩ | ⟨h1, h2⟩) | ⟨h1, h2⟩) | ⟨h1, h2⟩
      · exact .inl ⟨h1, by omega⟩
      · exact .inr ⟨h1, by omega⟩
      · exact .inl ⟨h1, by omega⟩
      · exact .inr ⟨h1, by omega⟩
    · intro h
      rcases h with ⟨h1, h2⟩ | ⟨h1, h2⟩
      · rcases Nat.lt_or_ge x.1 i with h | h
        · exact .inl (.inl (.inl ⟨h1, h⟩))
        · exact .inl (.inr ⟨h1, by omega⟩)
      · rcases Nat.lt_or_ge o i with h | h
        · exact .inl (.inl (.inr ⟨h1, h⟩))
        · exact .inr ⟨h1, by omega⟩
theorem filter_one {c : List (Nat × Bool)} (hc : c.Pairwise fun a b => a.1 < b.1) (i : Nat) : (c.filter (fun x => x.1 == i)).Pairwise fun a b => a.1 < b.1 := hc.filter _
theorem insO_sorted {c : List (Nat × Bool)} {o : Nat} {b : Bool} (hc : c.Pairwise fun a b => a.1 < b.1) (ho : ∀ x ∈ c, x.1 ≠ o) : ∀ i, (insO c o b i).Pairwise fun a b => a.1 < b.1
  | 0 => List.Pairwise.nil
  | i + 1 => by
    rw [insO, List.pairwise_append, List.pairwise_append]
    refine ⟨⟨insO_sorted hc ho i, filter_one hc i, fun x hx y hy => ?_⟩, ?_, fun x hx y hy => ?_⟩
    · have hy := (List.mem_filter.1 hy).2
      rw [beq_iff_eq] at hy
      rcases (insO_mem c o b i x).1 hx with ⟨_, h⟩ | ⟨h, h2⟩
      · omega
      · rw [h]; omega
    · split
      · exact List.pairwise_singleton _ _
      · exact List.Pairwise.nil
    · split at hy
      · rename_i e
        rw [List.mem_singleton.1 hy]
        rcases List.mem_append.1 hx with hx | hx
        · rcases (insO_mem c o b i x).1 hx with ⟨_, h⟩ | ⟨h, h2⟩
          · omega
          · omega
        · have h1 := List.mem_filter.1 hx
          have h2 := h1.2
          rw [beq_iff_eq] at h2
          exact absurd (h2.trans e) (ho x h1.1)
      · cases hy
theorem insO_len {c : List (Nat × Bool)} (o : Nat) (b : Bool) : ∀ i, (insO c o b i).length ≤ (c.length + 1) * i
  | 0 => by simp [insO]
  | i + 1 => by
    have h := insO_len (c := c) o b i
    have h2 := List.length_filter_le (fun x : Nat × Bool => x.1 == i) c
    have h3 : (if i = o then [(o, b)] else [] : List (Nat × Bool)).length ≤ 1 := by split <;> simp
    rw [insO, List.length_append, List.length_append, Nat.mul_succ]
    omega
theorem all_ins {c : List (Nat × Bool)} {o n : Nat} {b : Bool} (hc : LowN n c) (ho : o < n) (p : Nat × Bool → Bool) : (insO c o b n).all p = (c.all p && p (o, b)) := by
  rw [Bool.eq_iff_iff, Bool.and_eq_true, List.all_eq_true, List.all_eq_true]
  constructor
  · intro h
    exact ⟨fun x hx => h x ((insO_mem c o b n x).2 (.inl ⟨hx, hc x hx⟩)), h _ ((insO_mem c o b n _).2 (.inr ⟨rfl, ho⟩))⟩
  · rintro ⟨h1, h2⟩ x hx
    rcases (insO_mem c o b n x).1 hx with ⟨h, _⟩ | ⟨h, _⟩
    · exact h1 x h
    · rw [h]; exact h2
theorem filter_split {α : Type} (p q : α → Bool) : ∀ l : List α, (l.filter p).length = (l.filter fun x => p x && q x).length + (l.filter fun x => p x && !q x).length
  | [] => rfl
  | a :: l => by
    have ih := filter_split p q l
    rw [List.filter_cons, List.filter_cons, List.filter_cons]
    cases p a <;> cases q a <;> simp <;> omega
theorem ok_ins {rs : List (ByteArray × List (Nat × Bool))} {c : List (Nat × Bool)} {o n : Nat} {b : Bool} (hc : LowN n c) (ho : o < n) (k : Nat) : okB rs (insO c o b n) k = (okB rs c k && litB k (o, b)) := by
  unfold okB
  rw [all_ins hc ho]
  cases c.all (litB k) <;> cases rs.all (satB k) <;> cases litB k (o, b) <;> rfl
theorem AL_split {rs : List (ByteArray × List (Nat × Bool))} {c : List (Nat × Bool)} {o n : Nat} (hc : LowN n c) (ho : o < n) : (AL n rs c).length = (AL n rs (insO c o true n)).length + (AL n rs (insO c o false n)).length := by
  unfold AL alU
  rw [filter_split (okB rs c) (fun k => litB k (o, true))]
  congr 2
  · exact List.filter_congr fun k _ => (ok_ins hc ho k).symm
  · refine List.filter_congr fun k _ => ?_
    rw [ok_ins hc ho k]
    congr 1
    unfold litB
    cases k.testBit (11 - o) <;> rfl
theorem frc_mentions {rs : List (ByteArray × List (Nat × Bool))} {c : List (Nat × Bool)} {o n : Nat} (hn : n ≤ 6) (hc : LowN n c) (ho : o < n) : ((frcU ((AL n rs c).map cF) n).any fun e => e.1 == o) = (decide ((AL n rs (insO c o true n)).length = 0) || decide ((AL n rs (insO c o false n)).length = 0)) := by
  have hAL : ∀ k ∈ AL n rs c, (cF k).1 = k := fun k hk => by
    rw [AL_ks] at hk
    obtain ⟨j, _, rfl⟩ := List.mem_map.1 hk
    exact Nat.mod_eq_of_lt (cfg_lt' n j hn)
  have h1 : ((frcU ((AL n rs c).map cF) n).any fun e => e.1 == o) = (((AL n rs c).map cF).all (fun k => k.1.testBit (11 - o)) || ((AL n rs c).map cF).all fun k => !k.1.testBit (11 - o)) := by
    unfold frcU
    rw [Bool.eq_iff_iff, List.any_eq_true]
    constructor
    · rintro ⟨x, hx, hxo⟩
      obtain ⟨i, hi, hix⟩ := List.mem_filterMap.1 hx
      split at hix
      · rename_i hcond
        injection hix with hix
        rw [← hix, beq_iff_eq] at hxo
        have hxo : i = o := hxo
        subst hxo
        exact hcond
      · cases hix
    · intro h
      refine ⟨(o, ((AL n rs c).map cF).all fun k => k.1.testBit (11 - o)), List.mem_filterMap.2 ⟨o, List.mem_range.2 ho, ?_⟩, by simp⟩
      rw [if_pos h]
  rw [h1]
  have e : ∀ b, decide ((AL n rs (insO c o b n)).length = 0) = ((AL n rs c).map cF).all fun k => k.1.testBit (11 - o) == !b := fun b => by
    have h2 : AL n rs (insO c o b n) = (AL n rs c).filter fun k => litB k (o, b) := by
      unfold AL alU
      rw [List.filter_filter]
      refine List.filter_congr fun k _ => ?_
      rw [ok_ins hc ho k, Bool.and_comm]
    rw [h2, Bool.eq_iff_iff, decide_eq_true_eq, List.length_eq_zero_iff, List.filter_eq_nil_iff, List.all_map, List.all_eq_true]
    constructor
    · intro h k hk
      have := h k hk
      unfold litB at this
      simp only [Function.comp, hAL k hk]
      revert this
      cases k.testBit (11 - o) <;> cases b <;> simp
    · intro h k hk
      have := h k hk
      simp only [Function.comp, hAL k hk] at this
      unfold litB
      revert this
      cases k.testBit (11 - o) <;> cases b <;> simp
  rw [e true, e false, Bool.or_comm]
  congr 1
  · congr 1; funext k; cases k.1.testBit (11 - o) <;> rfl
  · congr 1; funext k; cases k.1.testBit (11 - o) <;> rfl
end Go.Proofs.Ytmfmpkihmadjmaa
