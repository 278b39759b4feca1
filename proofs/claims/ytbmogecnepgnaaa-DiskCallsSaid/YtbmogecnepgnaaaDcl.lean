/- The model: choice. -/
import Derived.Test.YtbmogecnepgnaaaDck
namespace Go.Proofs.Ytbmogecnepgnaaa
open Go.RowKit Go.Maps Go.Shelf
/-- A script of the model, some of whose numbers are left. -/
def ScM (w : World) (sb q : Nat) (l : List Int) : Prop := ∃ A n c, w.heap[sb]? = some (.cells #[.slice A n c] 109 (0, 0)) ∧ IntL w A l ∧ l.length = n ∧ n ≤ c ∧ c ≤ maxLen ∧ ∀ b o t, l ≠ [] → A = some ⟨b, o, t⟩ → b < q
theorem ScM.keep {w w' : World} {sb q : Nat} {l : List Int} (h : ScM w sb q l) (hb : Below w.heap.size w w') : ScM w' sb q l :=
  let ⟨A, n, c, h1, h2, h3⟩ := h
  ⟨A, n, c, row_keep h1 hb, h2.keep hb, h3⟩
theorem ScM.grown {w w' : World} {sb q k : Nat} {l : List Int} (h : ScM w sb q l) (hg : w.grownBy w' (some k)) (hk : k ≠ sb) (hq : q ≤ k) : ScM w' sb q l :=
  let ⟨A, n, c, h1, h2, h3, h4, h5, h6⟩ := h
  ⟨A, n, c, heap_stay h1 hg (fun e => hk (by injection e)), h2.grown hg (fun b o t e1 e2 => by have := h6 b o t e1 e2; omega), h3, h4, h5, h6⟩
theorem chN_drop (l : List Int) (nx most : Nat) : chN (l.drop nx) 0 most = chN l nx most := by
  unfold chN
  rw [List.getD_eq_getElem?_getD, List.getD_eq_getElem?_getD, List.getElem?_drop, Nat.add_zero]
set_option maxRecDepth 100000 in
set_option maxHeartbeats 16000000 in
theorem choiceM_any {w : World} {sb q : Nat} {l : List Int} (h : ScM w sb q l) (hq : q ≤ sb) (most : Nat) (hm : most ≤ 100000000) (hbd : ∀ k ∈ l, -9223372036854775808 ≤ k ∧ k ≤ 9223372036854775807) :
    Calls Try.prog 63 #[ptrV sb, .int .i64 (most : Nat)] w fun e w' => e = .returned (.int .i64 (chN l 0 most : Nat)) ∧ ScM w' sb q (l.drop 1) ∧ w.grownBy w' (some sb) := by
  have HH := Lib.hid h
  obtain ⟨A, n, c, h1, h2, h3, h4, h5, h6⟩ := h
  have z0 := (Cells.of_row h1).at_ 0
  have y0 := (Cells.of_row h1).fz 0
  simp only [List.getElem?_cons_zero] at z0
  have hm1 : IntKind.i64.wrap ((most : Int) + 1) = (most : Int) + 1 := IntWalk.i64_in _ (by omega)
  have hm2 : ((most : Int) + 1 == 0) = false := beq_eq_false_iff_ne.2 (by omega)
  have hm3 : ¬ ((most : Int) + 1 = 0) := by omega
  cases l with
  | nil =>
    obtain rfl : n = 0 := by simpa using h3.symm
    have HR := Lib.hid (show chN [] 0 most = 0 by unfold chN; simp)
    clear h1 h2 h3 h6
    have e0 : IntKind.i64.wrap 0 = 0 := rfl
    go_enter Try.func63, Try.ntmps63
    go_wp2_with fail
    all_goals
      go_ret
      exact ⟨by rw [HR.out]; rfl, HH.out, World.grownBy.refl _ _⟩
  | cons x r =>
    have hn : 0 < n := by rw [← h3]; simp
    have hn2 : (0 : Int) < (n : Int) := by omega
    obtain ⟨b, o, e, hbl, hc⟩ := h2 0 x rfl
    subst e
    rw [Nat.add_zero] at hc
    have hx := hbd x List.mem_cons_self
    have hbq := h6 b o none (by simp) rfl
    have hI : IntL w (some ⟨b, o + 1, none⟩) r := fun k y hk => by
      obtain ⟨b', o', e, hl, hc'⟩ := h2 (k + 1) y (by simpa using hk)
      injection e with e
      injection e with e1 e2 _
      subst e1 e2
      exact ⟨b, o + 1, rfl, hl, by rw [show o + 1 + k = o + (k + 1) by omega]; exact hc'⟩
    have HR := Lib.hid (show chN (x :: r) 0 most = x.toNat % (most + 1) from rfl)
    have hset : ∀ (A' : Option Addr) (n' c' : Nat), IntL w A' r → r.length = n' → n' ≤ c' → c' ≤ maxLen → (∀ b o t, r ≠ [] → A' = some ⟨b, o, t⟩ → b < q) → ScM (w.setCell ⟨sb, 0, none⟩ (.slice A' n' c')) sb q r ∧ w.grownBy (w.setCell ⟨sb, 0, none⟩ (.slice A' n' c')) (some sb) := fun A' n' c' i1 i2 i3 i4 i5 => by
      have hg := grown_cells sb [.slice A' n' c'] 0 w
      have e : w.setCells sb 0 [.slice A' n' c'] = w.setCell ⟨sb, 0, none⟩ (.slice A' n' c') := rfl
      rw [e] at hg
      exact ⟨⟨A', n', c', heap_setF w sb 0 _ _ _ _ h1, i1.grown hg (fun b o t e1 e2 => by have := i5 b o t e1 e2; omega), i2, i3, i4, i5⟩, hg⟩
    have hrl : r.length = n - 1 := by rw [← h3]; simp
    have tail : ∀ {W : World}, ScM W sb q r → ScM W sb q ((x :: r).drop 1) := fun h => h
    by_cases hc1 : c = 1
    · subst hc1
      have hn1 : n = 1 := by omega
      subst hn1
      have HS := Lib.hid (hset (some ⟨b, o, none⟩) 0 0 (fun k y hk => by
        obtain rfl : r = [] := List.eq_nil_of_length_eq_zero hrl
        simp at hk) hrl (Nat.le_refl _) (Nat.zero_le _) (fun b' o' t e1 _ => absurd (List.eq_nil_of_length_eq_zero hrl) e1))
      clear h1 h2 h3 h4 h5 h6 hI hset hrl hbd
      by_cases hx0 : x < 0
      · have t0 : decide (x < 0) = true := decide_eq_true hx0
        have HV := Lib.hid (show chN (x :: r) 0 most = 0 by rw [HR.out, show x.toNat = 0 by omega]; simp)
        go_enter Try.func63, Try.ntmps63
        go_wp2_with fail
        go_ret
        exact ⟨by rw [HV.out]; rfl, HS.out.1, HS.out.2⟩
      · obtain ⟨k, rfl⟩ : ∃ k : Nat, x = (k : Nat) := ⟨x.toNat, by omega⟩
        have e4 : (k : Int).tmod ((most : Int) + 1) = ((k % (most + 1) : Nat) : Int) := (Int.ofNat_tmod k (most + 1)).symm
        have hlt : k % (most + 1) < most + 1 := Nat.mod_lt _ (by omega)
        have e5 : IntKind.i64.wrap ((k % (most + 1) : Nat) : Int) = ((k % (most + 1) : Nat) : Int) := IntWalk.i64_in _ (by omega)
        obtain ⟨rr, hrr⟩ : ∃ z, k % (most + 1) = z := ⟨_, rfl⟩
        rw [hrr] at e4 e5
        have HV := Lib.hid (show chN ((k : Int) :: r) 0 most = rr by rw [HR.out, Int.toNat_natCast, hrr])
        have t0 : decide ((k : Int) < 0) = false := decide_eq_false hx0
        clear hrr hlt
        go_enter Try.func63, Try.ntmps63
        go_wp2_with fail
        go_ret
        exact ⟨by rw [HV.out]; rfl, HS.out.1, HS.out.2⟩
    · have hc2 : 1 < c := by omega
      have HS := Lib.hid (hset (some ⟨b, o + 1, none⟩) (n - 1) (c - 1) hI hrl (by omega) (by omega) (fun b' o' t e1 e2 => by injection e2 with e2; injection e2 with e2 _ _; omega))
      clear h1 h2 h3 h6 hI hset hrl hbd
      by_cases hx0 : x < 0
      · have t0 : decide (x < 0) = true := decide_eq_true hx0
        have HV := Lib.hid (show chN (x :: r) 0 most = 0 by rw [HR.out, show x.toNat = 0 by omega]; simp)
        go_enter Try.func63, Try.ntmps63
        go_wp2_with fail
        go_ret
        exact ⟨by rw [HV.out]; rfl, HS.out.1, HS.out.2⟩
      · obtain ⟨k, rfl⟩ : ∃ k : Nat, x = (k : Nat) := ⟨x.toNat, by omega⟩
        have e4 : (k : Int).tmod ((most : Int) + 1) = ((k % (most + 1) : Nat) : Int) := (Int.ofNat_tmod k (most + 1)).symm
        have hlt : k % (most + 1) < most + 1 := Nat.mod_lt _ (by omega)
        have e5 : IntKind.i64.wrap ((k % (most + 1) : Nat) : Int) = ((k % (most + 1) : Nat) : Int) := IntWalk.i64_in _ (by omega)
        obtain ⟨rr, hrr⟩ : ∃ z, k % (most + 1) = z := ⟨_, rfl⟩
        rw [hrr] at e4 e5
        have HV := Lib.hid (show chN ((k : Int) :: r) 0 most = rr by rw [HR.out, Int.toNat_natCast, hrr])
        have t0 : decide ((k : Int) < 0) = false := decide_eq_false hx0
        clear hrr hlt
        go_enter Try.func63, Try.ntmps63
        go_wp2_with fail
        go_ret
        exact ⟨by rw [HV.out]; rfl, HS.out.1, HS.out.2⟩
end Go.Proofs.Ytbmogecnepgnaaa
