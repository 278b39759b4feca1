/- Liaisons: what is checked. -/
import Derived.Test.YtdpfoegcmngdfaaDoorLd
namespace Go.Proofs.YtdpfoegcmngdfaaDoor
open Go.RowKit
theorem EL.len' {w : World} {A : Option Addr} {n : Nat} {es : List (Nat × Nat)} (h : EL w A n (cast es)) : es.length = n := by have := h.1; unfold cast at this; simpa using this
def EdiPost (es : List (Nat × Nat)) (e0 : Nat × Nat) (w : World) (e : Ending) (w' : World) : Prop :=
  ((es.contains e0 = false ∧ e = .returned (.int .i64 (-1))) ∨ ∃ k : Nat, es.contains e0 = true ∧ e = .returned (.int .i64 (k : Nat))) ∧ Below w.heap.size w w'
theorem con_snoc (l : List (Nat × Nat)) (x e : Nat × Nat) : (l ++ [x]).contains e = (l.contains e || (e == x)) := by
  rw [List.contains_append]
  congr 1
  show (e == x || false) = (e == x)
  exact Bool.or_false _
set_option maxRecDepth 100000 in
set_option maxHeartbeats 8000000 in
theorem edi_any (A : Option Addr) (m c : Nat) (es : List (Nat × Nat)) (a b : Nat) (w : World) (h : EL w A m (cast es)) (hm : m ≤ 4096) :
    Calls Tryd.prog 70 #[.slice A m c, .agg #[.int .i64 a, .int .i64 b]] w (EdiPost es (a, b) w) := by
  have kv := (Below.refl w.heap.size w).alloc (Nat.le_refl _) (.cells #[.int .i64 (a : Nat), .int .i64 (b : Nat)] 75)
  have P0 := Lib.hid (Cells.new w #[.int .i64 (a : Nat), .int .i64 (b : Nat)] 75)
  have hel := h.len'
  have E0 := Lib.hid h
  have kv := Lib.hid kv
  clear h
  go_enter Tryd.func70, Tryd.ntmps70
  go_wp2_with fail
  go_loopw [5, 8] (fun _ i wr => ∃ j : Nat, i = .int .i64 (j : Nat) ∧ j ≤ m ∧ (es.take j).contains (a, b) = false ∧ Below w.heap.size w wr ∧ Cells wr w.heap.size ([Value.int .i64 (a : Nat), .int .i64 (b : Nat)])) (fun _ i _ => m - (intOf i).toNat)
  case atStart => exact ⟨0, rfl, Nat.zero_le _, rfl, kv.out, P0.out⟩
  case round =>
    obtain ⟨j, rfl, hj, hall, hb, hP⟩ := hrel
    have Hall := Lib.hid hall
    have B6 := Lib.hid hb
    have P6 := Lib.hid hP
    have E6 := Lib.hid (E0.out.keep hb)
    clear hall hb hP
    obtain ⟨wa, rfl⟩ : ∃ wa : World, wa = wr := ⟨_, rfl⟩
    by_cases hlt : j < m
    · obtain ⟨e0, bb, o, he, rfl, _, c0, c1⟩ := E6.out.at_ hlt
      obtain ⟨x, z, hx, rfl⟩ := cast_at he
      simp only at c0 c1
      have Hlt := Lib.hid hlt
      have Hx := Lib.hid hx
      have Hs := Lib.hid (show es.take (j + 1) = es.take j ++ [(x, z)] by rw [List.take_add_one, hx]; rfl)
      have g0 := P6.out.at_ 0
      have g1 := P6.out.at_ 1
      simp only [List.getElem?_cons_zero, List.getElem?_cons_succ] at g0 g1
      clear he
      by_cases h1 : a = x
      · subst h1
        have t0 : ((a : Int) == (a : Int)) = true := by simp
        by_cases h2 : b = z
        · subst h2
          have t1 : ((b : Int) == (b : Int)) = true := by simp
          go_wp2_with fail
          go_still_tail 5, (by kernel_rfl)
          change wpList _ _ _ _ _ wa.drew
          go_wp2_with fail
          go_ret
          exact ⟨.inr ⟨j, by rw [List.contains_iff_mem]; exact List.mem_of_getElem? Hx.out, rfl⟩, B6.out.drew⟩
        · have t1 : ((b : Int) == (z : Int)) = false := by simp; omega
          have Hb := Lib.hid (show (((a, b) : Nat × Nat) == (a, z)) = false by simp [h2])
          go_wp2_with fail
          go_still_tail 5, (by kernel_rfl)
          change wpList _ _ _ _ _ wa.drew
          go_wp2_with fail
          go_roundw
          case rel => exact ⟨j + 1, by go_num, Hlt.out, by rw [Hs.out, con_snoc, Hall.out, Hb.out]; rfl, B6.out.drew, P6.out.drew⟩
          case measure => simp [intOf]; have := Hlt.out; omega
      · have t0 : ((a : Int) == (x : Int)) = false := by simp; omega
        have Hb := Lib.hid (show (((a, b) : Nat × Nat) == (x, z)) = false by simp [h1])
        go_wp2_with fail
        go_still_tail 5, (by kernel_rfl)
        change wpList _ _ _ _ _ wa.drew
        go_wp2_with fail
        go_roundw
        case rel => exact ⟨j + 1, by go_num, Hlt.out, by rw [Hs.out, con_snoc, Hall.out, Hb.out]; rfl, B6.out.drew, P6.out.drew⟩
        case measure => simp [intOf]; have := Hlt.out; omega
    · have hjl : es.take j = es := List.take_of_length_le (by omega)
      rw [hjl] at Hall
      clear hjl
      go_wp2_with fail
      go_ret
      exact ⟨.inl ⟨Hall.out, rfl⟩, B6.out⟩
set_option maxRecDepth 100000 in
set_option maxHeartbeats 8000000 in
theorem edc_any (A : Option Addr) (m c : Nat) (es : List (Nat × Nat)) (a b : Nat) (w : World) (h : EL w A m (cast es)) (hm : m ≤ 4096) :
    Calls Tryd.prog 46 #[.slice A m c, .agg #[.int .i64 a, .int .i64 b]] w fun e w' => e = .returned (.bool (es.contains (a, b))) ∧ Below w.heap.size w w' := by
  have kv := (Below.refl w.heap.size w).alloc (Nat.le_refl _) (.cells #[.int .i64 (a : Nat), .int .i64 (b : Nat)] 75)
  have P0 := Lib.hid (Cells.new w #[.int .i64 (a : Nat), .int .i64 (b : Nat)] 75)
  have HI := Lib.hid (edi_any A m c es a b _ (h.keep kv) hm)
  have kv := Lib.hid kv
  clear h
  go_enter Tryd.func46, Tryd.ntmps46
  have g0 := P0.out.at_ 0
  have g1 := P0.out.at_ 1
  simp only [List.getElem?_cons_zero, List.getElem?_cons_succ] at g0 g1
  go_wp2_with fail
  refine HI.out.mono ?_
  rintro e w1 ⟨hc, hb1⟩
  have B1 := Lib.hid (below_on kv.out hb1)
  clear hb1
  rcases hc with ⟨ha, rfl⟩ | ⟨k, ha, rfl⟩
  · have Ha := Lib.hid ha
    clear ha
    go_wp2_with fail
    go_ret
    exact ⟨by rw [Ha.out]; rfl, B1.out⟩
  · have Ha := Lib.hid ha
    have t0 : decide ((0 : Int) ≤ (k : Int)) = true := decide_eq_true (by omega)
    clear ha
    go_wp2_with fail
    go_ret
    exact ⟨by rw [Ha.out]; simp, B1.out⟩
/-- The first one that is not 0. -/
def firstE : List Int → Int
  | [] => 0
  | x :: l => if x = 0 then firstE l else x
theorem firstE_app : ∀ {a b : List Int}, (∀ x ∈ a, x = 0) → firstE (a ++ b) = firstE b
  | [], b, _ => rfl
  | x :: a, b, h => by
    rw [List.cons_append, firstE, if_pos (h x (List.mem_cons_self ..))]
    exact firstE_app fun y hy => h y (List.mem_cons_of_mem _ hy)
theorem firstE_at {f : Nat → Int} {k m : Nat} (hk : k < m) (h : ∀ j, j < k → f j = 0) (h0 : f k ≠ 0) : firstE ((List.range m).map f) = f k := by
  have e : List.range m = List.range k ++ k :: List.range' (k + 1) (m - k - 1) := by
    rw [List.range_eq_range', List.range_eq_range', show List.range' 0 m = List.range' 0 (k + (m - k)) by congr 1; omega, ← List.range'_append_1, Nat.zero_add, show m - k = (m - k - 1) + 1 by omega, List.range'_succ]
    rfl
  rw [e, List.map_append, firstE_app fun x hx => by
    obtain ⟨j, hj, rfl⟩ := List.mem_map.1 hx
    exact h j (List.mem_range.1 hj)]
  rw [List.map_cons, firstE, if_neg h0]
theorem firstE_none {f : Nat → Int} {m : Nat} (h : ∀ j, j < m → f j = 0) : firstE ((List.range m).map f) = 0 := by
  have := firstE_app (a := (List.range m).map f) (b := []) fun x hx => by
    obtain ⟨j, hj, rfl⟩ := List.mem_map.1 hx
    exact h j (List.mem_range.1 hj)
  rwa [List.append_nil] at this
theorem firstE_ok {f : Nat → Int} {m : Nat} (h : firstE ((List.range m).map f) = 0) : ∀ j, j < m → f j = 0 := by
  intro j
  induction j using Nat.strongRecOn with
  | ind j ih =>
    intro hj
    apply Classical.byContradiction
    intro hne
    rw [firstE_at hj (fun i hi => ih i hi (by omega)) hne] at h
    exact hne h
/-- The error of a list of nodes at place k. -/
def memAt (n : Int) (l : List Int) (k : Nat) : Int := if l.getD k 0 < 0 ∨ n ≤ l.getD k 0 then 2 else if 0 < k ∧ l.getD k 0 ≤ l.getD (k - 1) 0 then 8 else 0
def memE (n : Int) (l : List Int) : Int := firstE ((List.range l.length).map (memAt n l))
def setE (n : Int) (l : List Int) : Int := if l.length = 0 then 7 else memE n l
theorem il_get {w : World} {A : Option Addr} {l : List Int} (h : IL w A l) {k : Nat} (hk : k < l.length) : ∃ b o, A = some ⟨b, o, none⟩ ∧ b < w.heap.size ∧ w.cell? ⟨b, o + k, none⟩ = some (.int .i64 (l.getD k 0)) := by
  obtain ⟨x, b, o, hx, e, hb, hc⟩ := h.at_ hk
  refine ⟨b, o, e, hb, ?_⟩
  rw [hc]
  simp [List.getD, hx]
set_option maxRecDepth 100000 in
set_option maxHeartbeats 4000000 in
theorem checkMembers_any (n : Int) (A : Option Addr) (c : Nat) (l : List Int) (w : World) (h : IL w A l) (hl : l.length ≤ 1000000) :
    Calls Tryd.prog 80 #[.slice A l.length c, .int .i64 n] w fun e w' => e = .returned (.int .i64 (memE n l)) ∧ w = w' := by
  have H := Lib.hid h
  have HA := Lib.hid (fun k (hk : k < l.length) => @firstE_at (memAt n l) k l.length hk)
  have HN := Lib.hid (@firstE_none (memAt n l) l.length)
  obtain ⟨E, hE⟩ : ∃ E, memE n l = E := ⟨_, rfl⟩
  rw [hE]
  have HA : RowKit.Hid (∀ k, k < l.length → (∀ j, j < k → memAt n l j = 0) → memAt n l k ≠ 0 → E = memAt n l k) := Lib.hid fun k hk h1 h2 => hE.symm.trans (HA.out k hk h1 h2)
  have HN : RowKit.Hid ((∀ j, j < l.length → memAt n l j = 0) → E = 0) := Lib.hid fun h1 => hE.symm.trans (HN.out h1)
  clear h hE
  go_enter Tryd.func80, Tryd.ntmps80
  go_wp2_with fail
  go_loopw [9] (fun i wr => ∃ k : Nat, k ≤ l.length ∧ i = .int .i64 (k : Nat) ∧ (∀ j, j < k → memAt n l j = 0) ∧ wr = w) (fun i _ => l.length - (intOf i).toNat)
  case atStart => exact ⟨0, Nat.zero_le _, rfl, fun j hj => absurd hj (Nat.not_lt_zero _), rfl⟩
  case round =>
    obtain ⟨k, hk, rfl, hz, rfl⟩ := hrel
    have Hz := Lib.hid hz
    clear hz
    by_cases hlt : k < l.length
    · obtain ⟨b, o, rfl, hbl, hcell⟩ := il_get H.out hlt
      have HD := Lib.hid (show memAt n l k = if l.getD k 0 < 0 ∨ n ≤ l.getD k 0 then 2 else if 0 < k ∧ l.getD k 0 ≤ l.getD (k - 1) 0 then 8 else 0 from rfl)
      have HK := Lib.hid (HA.out k hlt Hz.out)
      have HC := Lib.hid (fun (h0 : 0 < k) => il_get H.out (k := k - 1) (by omega))
      have HY := Lib.hid (fun (h0 : memAt n l k = 0) j (hj : j < k + 1) => by
        rcases Nat.lt_or_ge j k with h1 | h1
        · exact Hz.out j h1
        · obtain rfl : j = k := by omega
          exact h0)
      obtain ⟨x, hx⟩ : ∃ x, l.getD k 0 = x := ⟨_, rfl⟩
      obtain ⟨M, hM⟩ : ∃ M, memAt n l k = M := ⟨_, rfl⟩
      rw [hx] at HD hcell
      rw [hM] at HD HK HY
      clear hx hM
      by_cases h1 : x < 0
      · have t1 : decide (x < 0) = true := decide_eq_true h1
        have Hf := Lib.hid (show E = 2 by rw [HK.out (by rw [HD.out, if_pos (.inl h1)]; decide), HD.out, if_pos (.inl h1)])
        clear h1
        go_wp2_with fail
        go_ret
        exact ⟨ret_int Hf.out.symm, rfl⟩
      · by_cases h2 : n ≤ x
        · have t1 : decide (x < 0) = false := decide_eq_false h1
          have t2 : decide (n ≤ x) = true := decide_eq_true h2
          have Hf := Lib.hid (show E = 2 by rw [HK.out (by rw [HD.out, if_pos (.inr h2)]; decide), HD.out, if_pos (.inr h2)])
          clear h1 h2
          go_wp2_with fail
          go_ret
          exact ⟨ret_int Hf.out.symm, rfl⟩
        · have t1 : decide (x < 0) = false := decide_eq_false h1
          have t2 : decide (n ≤ x) = false := decide_eq_false h2
          rw [if_neg (by omega)] at HD
          clear h1 h2
          by_cases h3 : 0 < k
          · obtain ⟨b', o', e', hb', hc'⟩ := HC.out h3
            injection e' with e'
            injection e' with e1 e2
            subst e1 e2
            obtain ⟨y, hy⟩ : ∃ y, l.getD (k - 1) 0 = y := ⟨_, rfl⟩
            rw [hy] at HD hc'
            have t3 : decide ((0 : Int) < (k : Int)) = true := decide_eq_true (by omega)
            have e3 : (k : Int) - 1 = ((k - 1 : Nat) : Int) := by omega
            have e4 : IntKind.i64.wrap ((k : Int) - 1) = ((k - 1 : Nat) : Int) := by rw [e3]; exact IntWalk.i64_in _ (by omega)
            by_cases h4 : x ≤ y
            · have t4 : decide (x ≤ y) = true := decide_eq_true h4
              have Hf := Lib.hid (show E = 8 by rw [HK.out (by rw [HD.out, if_pos ⟨h3, h4⟩]; decide), HD.out, if_pos ⟨h3, h4⟩])
              clear h4 hy
              go_wp2_with fail
              go_ret
              exact ⟨ret_int Hf.out.symm, rfl⟩
            · have t4 : decide (x ≤ y) = false := decide_eq_false h4
              have Hf := Lib.hid (HY.out (by rw [HD.out, if_neg (fun h => h4 h.2)]))
              clear h4 hy
              go_wp2_with fail
              go_roundw
              case rel => exact ⟨k + 1, by omega, by go_num, Hf.out, trivial⟩
              case measure => simp [intOf]; omega
          · have Hf := Lib.hid (HY.out (by rw [HD.out, if_neg (fun h => h3 h.1)]))
            obtain rfl : k = 0 := by omega
            rw [Nat.add_zero] at hcell
            clear h3
            go_wp2_with fail
            go_roundw
            case rel => exact ⟨1, by omega, rfl, Hf.out, trivial⟩
            case measure => simp [intOf]; omega
    · obtain rfl : k = l.length := by omega
      have Hf := Lib.hid (HN.out Hz.out)
      go_wp2_with fail
      go_ret
      exact ⟨ret_int Hf.out.symm, rfl⟩
set_option maxRecDepth 100000 in
theorem checkSet_any (n : Int) (A : Option Addr) (c : Nat) (l : List Int) (w : World) (h : IL w A l) (hl : l.length ≤ 1000000) :
    Calls Tryd.prog 71 #[.slice A l.length c, .int .i64 n] w fun e w' => e = .returned (.int .i64 (setE n l)) ∧ w = w' := by
  have HM := Lib.hid (checkMembers_any n A c l w h hl)
  by_cases h0 : l.length = 0
  · have e : setE n l = 7 := by unfold setE; rw [if_pos h0]
    have t0 : (((l.length : Nat) : Int) == 0) = true := by rw [h0]; rfl
    rw [e]
    clear h h0 e
    go_enter Tryd.func71, Tryd.ntmps71
    go_wp2_with fail
    go_ret
    exact ⟨rfl, rfl⟩
  · have e : setE n l = memE n l := by unfold setE; rw [if_neg h0]
    have t0 : (((l.length : Nat) : Int) == 0) = false := by rw [beq_eq_false_iff_ne]; omega
    rw [e]
    clear h h0 e
    go_enter Tryd.func71, Tryd.ntmps71
    go_wp2_with fail
    refine HM.out.mono ?_
    rintro e w' ⟨rfl, rfl⟩
    go_wp2_with fail
    go_ret
    exact ⟨rfl, rfl⟩
/-- The error of an edge among others. -/
def lnkAt (es : List (Nat × Nat)) (k : Nat) : Int := match es[k]? with | some (a, b) => if a = b then 17 else if es.contains (b, a) then 0 else 10 | none => 0
def liN (es : List (Nat × Nat)) : Int := firstE ((List.range es.length).map (lnkAt es))
set_option maxRecDepth 100000 in
set_option maxHeartbeats 8000000 in
theorem liCheck_bad (n : Int) (A : Option Addr) (m c : Nat) (es : List (Int × Int)) (w : World) (h : EL w A m es) (hm : m ≤ 4096) (hb : checkG n es ≠ 0) :
    Calls Tryd.prog 12 #[gV n A m c] w fun e w' => e = .returned (.int .i64 (checkG n es)) ∧ Below w.heap.size w w' := by
  have kv := (Below.refl w.heap.size w).alloc (Nat.le_refl _) (.cells #[.int .i64 n, .slice A m c] 24)
  have P0 := Cells.new w #[.int .i64 n, .slice A m c] 24
  have HC := Lib.hid (check_any n A m c es _ (h.keep kv) (by omega))
  have g0 := P0.at_ 0
  have g1 := P0.at_ 1
  simp only [List.getElem?_cons_zero, List.getElem?_cons_succ] at g0 g1
  obtain ⟨E, hE⟩ : ∃ E, checkG n es = E := ⟨_, rfl⟩
  rw [hE] at HC hb ⊢
  have t0 : (E != 0) = true := by simpa using hb
  have kv := Lib.hid kv
  clear h hE hb P0
  go_enter Tryd.func12, Tryd.ntmps12
  go_wp2_with fail
  refine HC.out.mono ?_
  rintro e w1 ⟨rfl, hb1⟩
  have B1 := Lib.hid (below_on kv.out hb1)
  clear hb1 g0 g1
  go_wp2_with fail
  go_ret
  exact ⟨rfl, B1.out⟩
set_option maxRecDepth 100000 in
set_option maxHeartbeats 8000000 in
theorem liCheck_any (n : Nat) (A : Option Addr) (m c : Nat) (es : List (Nat × Nat)) (w : World) (h : EL w A m (cast es)) (hm : m ≤ 4096) (hg : checkG (n : Int) (cast es) = 0) :
    Calls Tryd.prog 12 #[gV n A m c] w fun e w' => e = .returned (.int .i64 (if 12 < n then 6 else liN es)) ∧ Below w.heap.size w w' := by
  have kv := (Below.refl w.heap.size w).alloc (Nat.le_refl _) (.cells #[.int .i64 (n : Nat), .slice A m c] 24)
  have P0 := Cells.new w #[.int .i64 (n : Nat), .slice A m c] 24
  have HC := check_any (n : Int) A m c (cast es) _ (h.keep kv) (by omega)
  rw [hg] at HC
  have HC := Lib.hid HC
  have g0 := P0.at_ 0
  have g1 := P0.at_ 1
  simp only [List.getElem?_cons_zero, List.getElem?_cons_succ] at g0 g1
  have hml := h.len'
  have HM := Lib.hid (Nat.le_of_eq hml)
  have HM2 := Lib.hid (Nat.le_of_eq hml.symm)
  have E0 := Lib.hid h
  have kv := Lib.hid kv
  have P0 := Lib.hid P0
  have HA := Lib.hid (fun k (hk : k < es.length) => @firstE_at (lnkAt es) k es.length hk)
  have HN := Lib.hid (@firstE_none (lnkAt es) es.length)
  clear h hg hml
  by_cases h12 : 12 < n
  · have t1 : decide ((12 : Int) < (n : Int)) = true := decide_eq_true (by omega)
    rw [if_pos h12]
    clear HA HN h12
    go_enter Tryd.func12, Tryd.ntmps12
    go_wp2_with fail
    refine HC.out.mono ?_
    rintro e w1 ⟨rfl, hb1⟩
    have P1 := P0.out.keep hb1
    have B1 := Lib.hid (below_on kv.out hb1)
    have g0 := P1.at_ 0
    have g1 := P1.at_ 1
    simp only [List.getElem?_cons_zero, List.getElem?_cons_succ] at g0 g1
    clear hb1 P1
    go_wp2_with fail
    go_ret
    exact ⟨rfl, B1.out⟩
  · rw [if_neg h12]
    obtain ⟨E, hE⟩ : ∃ E, liN es = E := ⟨_, rfl⟩
    rw [hE]
    have HA : RowKit.Hid (∀ k, k < es.length → (∀ j, j < k → lnkAt es j = 0) → lnkAt es k ≠ 0 → E = lnkAt es k) := Lib.hid fun k hk h1 h2 => hE.symm.trans (HA.out k hk h1 h2)
    have HN : RowKit.Hid ((∀ j, j < es.length → lnkAt es j = 0) → E = 0) := Lib.hid fun h1 => hE.symm.trans (HN.out h1)
    have t1 : decide ((12 : Int) < (n : Int)) = false := decide_eq_false (by omega)
    clear hE h12
    go_enter Tryd.func12, Tryd.ntmps12
    go_wp2_with fail
    refine HC.out.mono ?_
    rintro e w1 ⟨rfl, hb1⟩
    have P1 := Lib.hid (P0.out.keep hb1)
    have B1 := Lib.hid (below_on kv.out hb1)
    have g0 := P1.out.at_ 0
    have g1 := P1.out.at_ 1
    simp only [List.getElem?_cons_zero, List.getElem?_cons_succ] at g0 g1
    clear hb1 P0
    go_wp2_with fail
    clear g0 g1
    go_loopw [17] (fun i wr => ∃ k : Nat, k ≤ m ∧ i = .int .i64 (k : Nat) ∧ (∀ j, j < k → lnkAt es j = 0) ∧ Cells wr w.heap.size [.int .i64 (n : Nat), .slice A m c] ∧ Below w.heap.size w wr) (fun i _ => m - (intOf i).toNat)
    case atStart => exact ⟨0, Nat.zero_le _, rfl, fun j hj => absurd hj (Nat.not_lt_zero _), P1.out, B1.out⟩
    case round =>
      obtain ⟨k, hk, rfl, hz, hp, hb⟩ := hrel
      have Hz := Lib.hid hz
      have P6 := Lib.hid hp
      have B6 := Lib.hid hb
      have E6 := Lib.hid (E0.out.keep hb)
      clear hz hp hb
      by_cases hlt : k < m
      · obtain ⟨e0, bb, o, he, rfl, _, c0, c1⟩ := E6.out.at_ hlt
        obtain ⟨x, z, hx, rfl⟩ := cast_at he
        simp only at c0 c1
        have kk := (Below.refl wr.heap.size wr).alloc (Nat.le_refl _) (.cells #[.int .i64 (x : Int), .int .i64 (z : Int)] 75)
        have HE := Lib.hid (Cells.new wr #[.int .i64 (x : Int), .int .i64 (z : Int)] 75)
        have P6 := Lib.hid (P6.out.keep kk)
        have B6 := Lib.hid (below_on B6.out kk)
        have E6 := Lib.hid (E6.out.keep kk)
        obtain ⟨x2, hx2⟩ : ∃ u, wr.alloc (.cells #[.int .i64 (x : Int), .int .i64 (z : Int)] 75) = u := ⟨_, rfl⟩
        obtain ⟨p2, hp2⟩ : ∃ p, wr.heap.size = p := ⟨_, rfl⟩
        rw [hx2] at HE P6 B6 E6
        rw [hp2] at HE
        have d0 : x2.cell? ⟨p2, 0, none⟩ = some (.int .i64 (x : Int)) := HE.out.at_ 0
        have d1 : x2.cell? ⟨p2, 1, none⟩ = some (.int .i64 (z : Int)) := HE.out.at_ 1
        have g0 := P6.out.at_ 0
        have g1 := P6.out.at_ 1
        simp only [List.getElem?_cons_zero, List.getElem?_cons_succ] at g0 g1
        have HD := Lib.hid (show lnkAt es k = if x = z then 17 else if es.contains (z, x) then 0 else 10 by unfold lnkAt; rw [hx])
        have HK := Lib.hid (HA.out k (by have := HM2.out; omega) Hz.out)
        have HY := Lib.hid (fun (h0 : lnkAt es k = 0) j (hj : j < k + 1) => by
          rcases Nat.lt_or_ge j k with h1 | h1
          · exact Hz.out j h1
          · obtain rfl : j = k := by omega
            exact h0)
        obtain ⟨M, hM⟩ : ∃ M, lnkAt es k = M := ⟨_, rfl⟩
        rw [hM] at HD HK HY
        clear hM he hx kk hk
        by_cases h1 : x = z
        · subst h1
          have t2 : ((x : Int) == (x : Int)) = true := by simp
          have Hf := Lib.hid (show E = 17 by rw [HK.out (by rw [HD.out, if_pos rfl]; decide), HD.out, if_pos rfl])
          go_wp2_with fail
          go_ret
          exact ⟨ret_int Hf.out.symm, B6.out⟩
        · have t2 : ((x : Int) == (z : Int)) = false := by simp; omega
          rw [if_neg h1] at HD
          have HQ := Lib.hid (edc_any (some ⟨bb, o, none⟩) m c es z x x2 E6.out (by omega))
          obtain ⟨q, hq⟩ : ∃ q, es.contains (z, x) = q := ⟨_, rfl⟩
          rw [hq] at HD HQ
          clear hq h1
          cases q
          · have Hf := Lib.hid (show E = 10 by rw [HK.out (by rw [HD.out]; decide), HD.out]; rfl)
            go_wp2_with fail
            refine HQ.out.mono ?_
            rintro e w3 ⟨rfl, hb3⟩
            have B3 := Lib.hid (below_on B6.out hb3)
            clear hb3
            go_wp2_with fail
            go_ret
            exact ⟨ret_int Hf.out.symm, B3.out⟩
          · have Hf := Lib.hid (HY.out (by rw [HD.out]; rfl))
            go_wp2_with fail
            refine HQ.out.mono ?_
            rintro e w3 ⟨rfl, hb3⟩
            have B3 := Lib.hid (below_on B6.out hb3)
            have P3 := Lib.hid (P6.out.keep hb3)
            clear hb3 g0 g1 d0 d1
            go_wp2_with fail
            go_roundw
            case rel => exact ⟨k + 1, by omega, by go_num, Hf.out, P3.out, B3.out⟩
            case measure => simp [intOf]; omega
      · have hkm : k = m := by omega
        have Hf := Lib.hid (HN.out fun j hj => Hz.out j (by have := HM.out; omega))
        subst hkm
        go_wp2_with fail
        go_ret
        exact ⟨ret_int Hf.out.symm, B6.out⟩
end Go.Proofs.YtdpfoegcmngdfaaDoor
