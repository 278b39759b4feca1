/- Allowed: its first rule that is not satisfied. -/
import Derived.Test.YtmfmpkihmadjmaaVbc
namespace Go.Proofs.Ytmfmpkihmadjmaa
open Go.RowKit
theorem runC_lt {bt : Nat → Nat} (hb : ∀ a, a < 6 → bt a < 2 ^ 12) : ∀ (l : List (Option Nat)) (last : Int) (c : Nat), c < 2 ^ 12 → (∀ a, some a ∈ l → a < 6) → (runC bt last c l).1 < 2 ^ 12
  | [], _, _, hc, _ => hc
  | none :: _, _, _, _, _ => by simp [runC]
  | some a :: l, last, c, hc, hl => by
    rw [runC]
    split
    · decide
    · exact runC_lt hb l a _ (Nat.or_lt_two_pow hc (hb a (hl a List.mem_cons_self))) (fun x hx => hl x (List.mem_cons_of_mem _ hx))
theorem idxO_low {n : Nat} {on : List ByteArray} (hn : n ≤ 6) : ∀ a, some a ∈ on.map (idxO n) → a < 6 := fun a h => by
  obtain ⟨s, _, hs⟩ := List.mem_map.1 h
  have := (idxO_some hn hs).1
  omega
theorem fidx_lt {α : Type} (p : α → Bool) (l : List α) : decide (fidx p l < 0) = !l.any p := by
  have h := fidx_ge p l
  rw [← h]
  by_cases h0 : 0 ≤ fidx p l
  · rw [decide_eq_true h0, decide_eq_false (by omega)]; rfl
  · rw [decide_eq_false h0, decide_eq_true (by omega)]; rfl
/-- What Allowed answers. -/
def alwV (rs : List (ByteArray × List (Nat × Bool))) (ce : Nat × Int) : Value :=
  if ce.2 = 0 then .tuple #[.bool (decide (fidx (fun r => !satB ce.1 r) rs < 0)), .int .i64 (fidx (fun r => !satB ce.1 r) rs), .int .i64 0] else .tuple #[.bool false, .int .i64 0, .int .i64 ce.2]
set_option maxRecDepth 100000 in
set_option maxHeartbeats 8000000 in
theorem alw1_any (p c : Nat) (nm : ByteArray) (A : Option Addr) (m d : Nat) (ls : List (Nat × Bool)) (w : World) (h : LitL w A (lc ls)) (hm : ls.length = m) (hl : LowL ls) (hc : c < 18446744073709551616) (hm2 : m ≤ 4611686018427387904) (hp : w.cell? ⟨p, 0, none⟩ = some (.int .u64 (c : Nat))) :
    Calls Try.prog 41 #[.agg #[.string nm, .slice A m d], .pointer (some ⟨p, 0, none⟩)] w fun e w' => e = .returned (.bool (!ls.any (litB c))) ∧ Below w.heap.size w w' := by
  have kv := (Below.refl w.heap.size w).alloc (Nat.le_refl _) (.cells #[.string nm, .slice A m d] 76)
  have hp2 := (kv.cell (p := ⟨p, 0, none⟩) (World.block_lt_of_cell? _ _ hp)).trans hp
  have P0 := Lib.hid (Cells.new w #[.string nm, .slice A m d] 76)
  have HH := satisfies_any c nm A m d ls _ (h.keep kv) hm hl hc hm2
  obtain ⟨q, hq⟩ : ∃ q, ls.any (litB c) = q := ⟨_, rfl⟩
  rw [hq] at HH ⊢
  have HH := Lib.hid HH
  have B1 := Lib.hid kv
  clear hp hc hq h hm hl kv
  go_enter Try.func41, Try.ntmps41
  have g0 := P0.out.at_ 0
  have g1 := P0.out.at_ 1
  simp only [List.getElem?_cons_zero, List.getElem?_cons_succ] at g0 g1
  go_wp2_with fail
  refine HH.out.mono ?_
  rintro e w1 ⟨rfl, hb1⟩
  have B2 := Lib.hid (below_on B1.out hb1)
  clear hb1
  go_wp2_with fail
  go_ret
  exact ⟨rfl, B2.out⟩
set_option maxRecDepth 100000 in
set_option maxHeartbeats 8000000 in
theorem alw_idx (A : Option Addr) (m c : Nat) (es : List (ByteArray × List (Nat × Bool))) (del : (ByteArray × List (Nat × Bool)) → Bool) (y : Value) (w : World) (h : RuleL w A es) (hlen : es.length = m) (hm : m ≤ 4611686018427387904)
    (hF : ∀ w' e A' d, e ∈ es → Below w.heap.size w w' → LitL w' A' (lc e.2) → Calls Try.prog 41 #[.agg #[.string e.1, .slice A' e.2.length d], y] w' fun r w2 => r = .returned (.bool (del e)) ∧ Below w'.heap.size w' w2) :
    Calls Try.prog 40 #[.slice A m c, .func (.func 41) #[] #[y]] w fun e w' => e = .returned (.int .i64 (fidx del es)) ∧ Below w.heap.size w w' := by
  have E0 := Lib.hid h
  have HF := Lib.hid hF
  have Hlen := Lib.hid hlen
  clear h hF hlen
  go_enter Try.func40, Try.ntmps40
  go_wp2_with fail
  go_loopw [5, 8] (fun _ i wr => ∃ j : Nat, i = .int .i64 (j : Nat) ∧ j ≤ m ∧ (es.take j).any del = false ∧ Below w.heap.size w wr) (fun _ i _ => m - (intOf i).toNat)
  case atStart => exact ⟨0, rfl, Nat.zero_le _, rfl, Below.refl _ _⟩
  case round =>
    obtain ⟨j, rfl, hj, hall, hb⟩ := hrel
    have Hall := Lib.hid hall
    have B6 := Lib.hid hb
    have E6 := Lib.hid (E0.out.keep hb)
    clear hall hb
    obtain ⟨wa, rfl⟩ : ∃ wa : World, wa = wr := ⟨_, rfl⟩
    by_cases hlt : j < m
    · have hlt2 : j < es.length := by rw [Hlen.out]; exact hlt
      obtain ⟨r, b, o, A', d, hx, rfl, _, c0, c1, hl⟩ := E6.out.at_ (k := j) hlt2
      have Hlt := Lib.hid hlt
      have Hx := Lib.hid hx
      have HFx := HF.out wa r A' d (List.mem_of_getElem? hx) B6.out hl
      obtain ⟨bx, hbx⟩ : ∃ bx, del r = bx := ⟨_, rfl⟩
      rw [hbx] at HFx
      try simp only at HFx
      have HFx := Lib.hid HFx
      have Hb := Lib.hid hbx
      clear hx hbx hlt2
      go_wp2_with fail
      refine HFx.out.mono ?_
      rintro e w7 ⟨rfl, hb7⟩
      have B7 := Lib.hid (below_on B6.out hb7)
      clear hb7
      cases bx
      · go_wp2_with fail
        go_roundw
        case rel => exact ⟨j + 1, by go_num, Hlt.out, any_snoc Hx.out Hall.out Hb.out, B7.out⟩
        case measure => simp [intOf]; have := Hlt.out; omega
      · go_wp2_with fail
        go_ret
        exact ⟨ret_int (fidx_hit Hall.out Hx.out Hb.out).symm, B7.out⟩
    · have hjl : es.take j = es := List.take_of_length_le (by rw [Hlen.out]; omega)
      rw [hjl] at Hall
      clear hjl
      go_wp2_with fail
      go_ret
      exact ⟨ret_int (fidx_miss Hall.out).symm, B6.out⟩
set_option maxRecDepth 100000 in
set_option maxHeartbeats 8000000 in
theorem allowed_names (f : Fm) (rs : List (ByteArray × List (Nat × Bool))) (gs : List (Nat × List (Nat × Bool))) (vs : List Ov) (ds : List Dm) (A : Option Addr) (m d : Nat) (on : List ByteArray) (w : World) (h : FamOK w f (famO f.n) rs gs vs ds) (hn6 : f.n ≤ 6) (hon : StrL w A on) (hol : on.length = m) (hm : m ≤ 1000) (hsz : ∀ s ∈ on, s.size ≤ 1000) :
    Calls Try.prog 15 #[f.v, .slice A m d] w fun e w' => e = .returned (alwV rs (runC (fun a => 2 ^ (11 - a)) (-1) 0 (on.map (idxO f.n)))) ∧ Below w.heap.size w w' := by
  have k1 := (Below.refl w.heap.size w).alloc (Nat.le_refl _) (.cells f.cells 40)
  have P1 := Lib.hid (Cells.new w f.cells 40)
  have H1 := h.keep k1
  have HC := check_ok f (famO f.n) rs gs vs ds _ H1
  obtain ⟨w1, hw1⟩ : ∃ u, w.alloc (.cells f.cells 40) = u := ⟨_, rfl⟩
  have hw1' : w.alloc (.cells #[.string f.nm, .slice f.PA f.pn f.pc, .slice f.IA f.iN f.ic, .slice f.DA f.dn f.dc, .slice f.KA f.kn f.kc, .slice f.QA f.qn f.qc, .slice f.OA f.n f.oc, .slice f.RA f.rn f.rc, .slice f.GA f.gn f.gc, .slice f.VA f.vn f.vc] 40) = w1 := hw1
  rw [hw1] at k1 P1 H1 HC
  have hlow : LowR rs := fun r hr => by
    obtain ⟨_, h2, h3⟩ := h.rsn r hr
    exact ⟨fun l hl => by have := chE_low h3 l hl; have := h.n12; omega, by omega⟩
  have hr48 := h.r48
  have hrsl := h.rsl
  have hlt := runC_lt (bt := fun a => 2 ^ (11 - a)) (by decide) (on.map (idxO f.n)) (-1) 0 (by decide) (idxO_low hn6)
  have HQ := fun (wx : World) (hb : Below w1.heap.size w1 wx) => configuration_any f A m d on wx (H1.keep hb).osL hn6 (hon.keep (below_on k1 hb)) hol hm hsz
  obtain ⟨c, hce⟩ : ∃ x, runC (fun a => 2 ^ (11 - a)) (-1) 0 (on.map (idxO f.n)) = x := ⟨_, rfl⟩
  rw [hce] at hlt HQ ⊢
  obtain ⟨c, er⟩ := c
  simp only at hlt HQ
  have HF := fun (wx : World) (hb : Below w1.heap.size w1 wx) (p : Nat) (hp : wx.cell? ⟨p, 0, none⟩ = some (.int .u64 (c : Nat))) => alw_idx f.RA f.rn f.rc rs (fun r => !satB c r) (.pointer (some ⟨p, 0, none⟩)) wx (H1.keep hb).rsL hrsl (by omega) (fun w' e A' d' he hb hle => alw1_any p c e.1 A' e.2.length d' e.2 w' hle rfl (hlow e he).1 (by omega) (hlow e he).2 ((hb.cell (World.block_lt_of_cell? _ _ hp)).trans hp))
  have HC := Lib.hid HC
  have HQ := Lib.hid HQ
  have HF := Lib.hid HF
  have K1 := Lib.hid k1
  clear k1 H1 hlow hr48 hrsl hlt hce h hon hol hm hsz
  go_enter Try.func15, Try.ntmps15
  have c0 := P1.out.at_ 0
  have c1 := P1.out.at_ 1
  have c2 := P1.out.at_ 2
  have c3 := P1.out.at_ 3
  have c4 := P1.out.at_ 4
  have c5 := P1.out.at_ 5
  have c6 := P1.out.at_ 6
  have c7 := P1.out.at_ 7
  have c8 := P1.out.at_ 8
  have c9 := P1.out.at_ 9
  simp only [List.getElem?_cons_zero, List.getElem?_cons_succ] at c0 c1 c2 c3 c4 c5 c6 c7 c8 c9
  go_wp2_with fail
  refine HC.out.mono ?_
  rintro e w2 ⟨rfl, hb2⟩
  have B2 := Lib.hid hb2
  have P2 := Lib.hid (P1.out.keep hb2)
  clear hb2 c0 c1 c2 c3 c4 c5 c6 c7 c8 c9
  have c0 := P2.out.at_ 0
  have c1 := P2.out.at_ 1
  have c2 := P2.out.at_ 2
  have c3 := P2.out.at_ 3
  have c4 := P2.out.at_ 4
  have c5 := P2.out.at_ 5
  have c6 := P2.out.at_ 6
  have c7 := P2.out.at_ 7
  have c8 := P2.out.at_ 8
  have c9 := P2.out.at_ 9
  simp only [List.getElem?_cons_zero, List.getElem?_cons_succ] at c0 c1 c2 c3 c4 c5 c6 c7 c8 c9
  go_wp2_with fail
  refine (HQ.out _ B2.out).mono ?_
  rintro e w3 ⟨rfl, hb3⟩
  have B3 := Lib.hid (below_on B2.out hb3)
  have P3 := Lib.hid (P2.out.keep hb3)
  clear hb3 c0 c1 c2 c3 c4 c5 c6 c7 c8 c9
  have c7 := P3.out.at_ 7
  simp only [List.getElem?_cons_zero, List.getElem?_cons_succ] at c7
  by_cases her : er = 0
  · subst her
    have k4 := (Below.refl w3.heap.size w3).alloc (Nat.le_refl _) (.cells #[.int .u64 (c : Nat)] 108)
    have P4 := Lib.hid (P3.out.keep k4)
    have B4 := Lib.hid (below_on B3.out k4)
    have HI := HF.out _ B4.out w3.heap.size ((Cells.new w3 #[.int .u64 (c : Nat)] 108).at_ 0)
    obtain ⟨q, hq⟩ : ∃ q, fidx (fun r => !satB c r) rs = q := ⟨_, rfl⟩
    rw [hq] at HI
    have HI := Lib.hid HI
    have HA := Lib.hid (show alwV rs (c, 0) = .tuple #[.bool (decide (q < 0)), .int .i64 q, .int .i64 0] by simp only [alwV, if_true, hq])
    clear k4 c7 hq
    have c7 := P4.out.at_ 7
    simp only [List.getElem?_cons_zero, List.getElem?_cons_succ] at c7
    go_wp2_with fail
    refine HI.out.mono ?_
    rintro e w5 ⟨rfl, hb5⟩
    have B5 := Lib.hid (below_on B4.out hb5)
    clear hb5
    go_wp2_with fail
    go_ret3
    rw [HA.out]
    exact ⟨rfl, below_on K1.out B5.out⟩
  · have e1 : decide (er ≠ 0) = true := decide_eq_true her
    go_wp2_with fail
    go_ret3
    unfold alwV
    simp only [if_neg her]
    exact ⟨rfl, below_on K1.out (below_on B3.out ((Below.refl w3.heap.size w3).alloc (Nat.le_refl _) _))⟩
end Go.Proofs.Ytmfmpkihmadjmaa
