/- used: the bytes of all files that have a name. -/
import Derived.Sort.KeysCollected
import Derived.Test.YtbmogecnepgnaaaDe
namespace Go.Proofs.Ytbmogecnepgnaaa
open Go.RowKit Go.Maps
/-- How many bytes the file has that an entry leads to. -/
def flen (F : List Fl) (d : Mp) : Nat := match d with
  | .lit (.int _ z) => ((F.find? fun f => decide ((f.b : Int) = z)).map fun f => f.bs.length).getD 0
  | _ => 0
def usedL (F : List Fl) (D : Mp) (left : Lit → Bool) : Nat := match D with
  | .map es => ((es.filter fun p => !left p.1).map fun p => flen F p.2).sum
  | _ => 0
def usedD (F : List Fl) (D : Mp) : Nat := match D with
  | .map es => (es.map fun p => flen F p.2).sum
  | _ => 0
theorem nod_eq {F : List Fl} (hn : F.Pairwise fun f g => f.b ≠ g.b) {f g : Fl} (hf : f ∈ F) (hg : g ∈ F) (h : f.b = g.b) : f = g := by
  induction F with
  | nil => cases hf
  | cons x l ih =>
    rw [List.pairwise_cons] at hn
    rcases List.mem_cons.1 hf with e1 | h1
    · rcases List.mem_cons.1 hg with e2 | h2
      · rw [e1, e2]
      · exact absurd (by rw [← e1]; exact h) (hn.1 g h2)
    · rcases List.mem_cons.1 hg with e2 | h2
      · exact absurd (by rw [← e2]; exact h.symm) (hn.1 f h1)
      · exact ih hn.2 h1 h2
theorem flen_at {F : List Fl} (hn : F.Pairwise fun f g => f.b ≠ g.b) {f : Fl} (hf : f ∈ F) : flen F (pD f.b) = f.bs.length := by
  unfold flen pD
  simp only
  cases hx : F.find? (fun g => decide ((g.b : Int) = (f.b : Int))) with
  | none =>
    rw [List.find?_eq_none] at hx
    exact absurd (decide_eq_true rfl) (hx f hf)
  | some g =>
    have h1 := List.find?_some hx
    have h2 : g.b = f.b := by have := of_decide_eq_true h1; omega
    rw [nod_eq hn (List.mem_of_find?_eq_some hx) hf h2]
    rfl
theorem at_has {D : Mp} (hD : IsMap D) {kl : Lit} {y : Mp} (hat : ∀ zd, D.atKey kl zd = y) : Maps.has D kl = true := by
  obtain ⟨es, rfl⟩ := hD
  unfold Maps.has
  cases hx : es.find? (fun p => p.1.sameKey kl) with
  | none =>
    have h1 := hat zD
    have h2 := hat (pD 0)
    unfold DataW.atKey at h1 h2
    simp only [hx] at h1 h2
    rw [← h2] at h1
    unfold zD pD at h1
    injection h1 with h1; injection h1 with _ h1; exact absurd h1 (by decide)
  | some p => exact List.any_eq_true.2 ⟨p, List.mem_of_find?_eq_some hx, by simpa using List.find?_some (p := fun p : Lit × Mp => p.1.sameKey kl) hx⟩
theorem used_start {es : List (Lit × Mp)} (F : List Fl) (hk : ∀ p ∈ es, WideAt.IsKeyLit p.1) : usedL F (.map es) (Maps.has (.map es)) = 0 := by
  unfold usedL
  simp only
  rw [List.filter_eq_nil_iff.2 (fun p hp => ?_)]
  · rfl
  · have : Maps.has (.map es) p.1 = true := List.any_eq_true.2 ⟨p, hp, WideAt.sameKey_self (hk p hp)⟩
    simp [this]
theorem used_end {D : Mp} (F : List Fl) {left : Lit → Bool} (hl : ∀ kl, left kl = false) : usedL F D left = usedD F D := by
  unfold usedL usedD
  cases D with
  | map es =>
    show ((es.filter _).map _).sum = _
    rw [List.filter_eq_self.2 (fun p _ => by rw [hl]; rfl)]
  | _ => rfl
theorem used_step {es : List (Lit × Mp)} (F : List Fl) {left : Lit → Bool} {kl : Lit} {y : Mp} (hp : es.Pairwise (fun p q => p.1 ≠ q.1)) (_hkl : WideAt.IsKeyLit kl) (hl : left kl = true) (hat : ∀ zd, (DataW.map es : Mp).atKey kl zd = y) :
    usedL F (.map es) (fun z => left z && !z.sameKey kl) = usedL F (.map es) left + flen F y := by
  have hh := at_has (D := .map es) ⟨es, rfl⟩ hat
  cases hx : es.find? (fun p => p.1.sameKey kl) with
  | none =>
    rw [List.find?_eq_none] at hx
    obtain ⟨p, h1, h2⟩ := List.any_eq_true.1 hh
    exact absurd h2 (hx p h1)
  | some p =>
    have hy : p.2 = y := by
      have h1 := hat zD
      unfold DataW.atKey at h1
      simp only [hx] at h1
      exact h1
    have hpk : p.1 = kl := WideAt.sameKey_eq (by simpa using List.find?_some (p := fun p : Lit × Mp => p.1.sameKey kl) hx)
    obtain ⟨a, b, rfl⟩ := List.append_of_mem (List.mem_of_find?_eq_some hx)
    rw [List.pairwise_append, List.pairwise_cons] at hp
    obtain ⟨_, ⟨hb, _⟩, hab⟩ := hp
    have ha' : ∀ q ∈ a, q.1.sameKey kl = false := fun q hq => sameKey_ne (by rw [← hpk]; exact hab q hq p (List.mem_cons_self ..))
    have hb' : ∀ q ∈ b, q.1.sameKey kl = false := fun q hq => sameKey_ne (by rw [← hpk]; exact fun e => hb q hq e.symm)
    have hs : p.1.sameKey kl = true := by simpa using List.find?_some (p := fun p : Lit × Mp => p.1.sameKey kl) hx
    unfold usedL
    simp only [List.filter_append, List.map_append, List.sum_append, List.filter_cons, hpk, hl]
    have e1 : a.filter (fun q => !(left q.1 && !q.1.sameKey kl)) = a.filter (fun q => !left q.1) := List.filter_congr fun q hq => by rw [ha' q hq]; simp
    have e2 : b.filter (fun q => !(left q.1 && !q.1.sameKey kl)) = b.filter (fun q => !left q.1) := List.filter_congr fun q hq => by rw [hb' q hq]; simp
    have e3 : kl.sameKey kl = true := by rw [hpk] at hs; exact hs
    rw [e1, e2]
    simp only [e3, hy, Bool.not_true, Bool.and_false, Bool.not_false, if_true, Bool.false_eq_true, if_false, List.map_cons, List.sum_cons]
    ac_rfl
theorem usedL_le {F : List Fl} (hF : ∀ f ∈ F, f.bs.length ≤ 16777216) (D : Mp) (left : Lit → Bool) : usedL F D left ≤ Maps.size D * 16777216 := by
  have hf : ∀ d, flen F d ≤ 16777216 := by
    intro d
    unfold flen
    split
    · cases hx : F.find? _ with
      | none => simp
      | some f => simpa using hF f (List.mem_of_find?_eq_some hx)
    · omega
  cases D with
  | map es =>
    show ((es.filter _).map _).sum ≤ es.length * _
    have h1 : ∀ l : List (Lit × Mp), (l.map fun p => flen F p.2).sum ≤ l.length * 16777216 := by
      intro l
      induction l with
      | nil => simp
      | cons x l ih => have := hf x.2; simp only [List.map_cons, List.sum_cons, List.length_cons]; omega
    exact Nat.le_trans (h1 _) (Nat.mul_le_mul_right _ (List.length_filter_le _ _))
  | _ => exact Nat.zero_le _
def mkP (o : Option Nat) : Value := .pointer (o.map fun b => ⟨b, 0, none⟩)
/-- Each name has a file. -/
def Refs (F : List Fl) (D : Mp) : Prop := ∀ k, Maps.has D k = true → ∃ f ∈ F, D.atKey k zD = pD f.b
set_option maxRecDepth 100000 in
set_option maxHeartbeats 4000000 in
theorem used_any {w : World} {B p : Nat} {m : Mem} {s : St} (h : DM w B p m s) (hr : Refs s.F s.D1) (hF : ∀ f ∈ s.F, f.bs.length ≤ 16777216) (hn : m.n1 ≤ 1000000) :
    Calls Try.prog 41 #[ptrV p] w fun e w' => e = .returned (.int .i64 (usedD s.F s.D1 : Nat)) ∧ Below w.heap.size w w' := by
  obtain ⟨_, c1, _, _, _, _, _⟩ := h.at4
  have hown := h.con.nm
  have hsz := hown.size_le
  obtain ⟨es, hes, hpw, hkl⟩ := hown.entries lawS
  have hcon := Lib.hid h.con
  have Hes := Lib.hid hes
  have Hr := Lib.hid hr
  have Hu := Lib.hid (fun left => usedL_le hF s.D1 left)
  have Hb := Lib.hid (show Maps.size s.D1 * 16777216 ≤ 16777216000000 from by
    have : Maps.size s.D1 * 16777216 ≤ 1000000 * 16777216 := Nat.mul_le_mul_right _ (Nat.le_trans hsz hn)
    omega)
  clear h hr hF hes
  go_enter Try.func41, Try.ntmps41
  go_wp2_with (first
    | (at_range; refine wpList_range_own _ rfl _ 68 rfl 9 76 lawS Try.underlying68 ptrE m.mn m.n1 s.D1 rfl hown ?_; intro w0 hrg0 hg0 hs0)
    | go_in)
  go_frame
  go_loopw [3, 5] (fun v _ wr => ∃ (left : Lit → Bool) (cnt : Nat), v = .int .i64 (usedL s.F s.D1 left : Nat) ∧ wr.ranges Try.prog 9 ptrE m.mn w.heap.size m.n1 s.D1 left cnt ∧ Below w.heap.size w wr) (fun _ _ wr => wr.rangeLeft m.mn w.heap.size)
  case atStart =>
    refine ⟨_, _, ?_, hrg0, ⟨hg0.os, hg0.tape, hg0.output, hg0.size, fun k hk => hg0.block k hk (by simp)⟩⟩
    rw [Hes.out, used_start s.F hkl]
    rfl
  case round =>
    obtain ⟨left, cnt, rfl, hrg, hnx⟩ := hrel
    go_wp2_with (first
      | (at_next; refine wpList_next_ranges _ rfl _ rfl 9 lawS ptrE encStr mkP (fun key kl hk => by obtain ⟨x, hx, _⟩ := Maps.keyOf_str Try.underlying9 hk; exact ⟨x, hx⟩) (fun v y hv => ptrE_shape v y hv) m.mn w.heap.size m.n1 s.D1 left cnt rfl hrg ?_ ?_)
      | go_in)
    · intro hc0 hl0
      go_wp2
      go_ret
      rw [used_end s.F hl0]
      exact ⟨rfl, hnx⟩
    · intro x c kl yd yp w1 cnt1 hkey hlk hv hat hrg1 hlt hg1 hs1 hen
      obtain ⟨x', ex, rfl, hxl⟩ := Maps.keyOf_str Try.underlying9 hkey
      have hhas := at_has hown.isMap hat
      obtain ⟨f, hf, hfe⟩ := Hr.out _ hhas
      rw [hat] at hfe
      have hv' : ptrE (mkP c) = some (pD f.b, yp) := by rw [hv, ← hfe]
      have hce : c = some f.b := by
        have := ptrE_inv hv'
        unfold mkP ptrV at this
        cases c with
        | none => cases this
        | some b => injection this with this; injection this with this; injection this with this; rw [this]
      subst hce
      obtain rfl : x = x' := encStr_inj ex
      have hmk : mkP (some f.b) = .pointer (some ⟨f.b, 0, none⟩) := rfl
      rw [hmk] at hen ⊢
      clear hmk ex
      have HC := Lib.hid (hcon.out.keep hnx)
      have HC1 := Lib.hid (HC.out.stayI hg1 hrg)
      have hst := used_step (es := es) s.F (left := left) hpw (kl := .string x) (y := yd) trivial hlk (by rw [← Hes.out]; exact hat)
      rw [← Hes.out, hfe, flen_at hcon.out.nod hf] at hst
      obtain ⟨A, cc, hsl, _⟩ := (HC1.out.fl f hf).2.1.slice
      have z0 := (Cells.of_row (HC1.out.fl f hf).1).at_ 0
      rw [hsl] at z0
      simp only [List.getElem?_cons_zero] at z0
      have hu1 := Hu.out left
      have hu2 := Hu.out (fun z => left z && !z.sameKey (.string x))
      have hb1 := Hb.out
      have e1 : IntKind.i64.wrap ((usedL s.F s.D1 left : Nat) + (f.bs.length : Nat) : Int) = ((usedL s.F s.D1 (fun z => left z && !z.sameKey (.string x)) : Nat) : Int) := by
        rw [show ((usedL s.F s.D1 left : Nat) + (f.bs.length : Nat) : Int) = ((usedL s.F s.D1 left + f.bs.length : Nat) : Int) by omega, ← hst]
        exact IntWalk.i64_in _ (by omega)
      have Hst := Lib.hid hst
      clear hst hsl hu1 hu2 hb1 hs1
      go_wp2_with fail
      go_roundw
      case rel => exact ⟨_, cnt1, rfl, hrg1, hnx.grown hg1 hnx.size (fun j hj => by cases hj; exact Nat.le_refl _)⟩
      case measure => rw [hrg1.left_eq, hrg.left_eq]; exact hlt
end Go.Proofs.Ytbmogecnepgnaaa
