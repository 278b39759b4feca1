/- Names and choices are checked. -/
import Derived.Maps.OwnIn
import Derived.Maps.OwnSet
import Derived.Maps.Views
import Derived.Maps.Keyed
import Derived.StringKeys
import Derived.Test.YtmfmpkihmadjmaaVs
namespace Go.Proofs.Ytmfmpkihmadjmaa
open Go.RowKit Go.Maps Go.WideMaps
/-- Whether a string is a name. -/
def nameB (s : ByteArray) : Prop := 0 < s.size ∧ s.size ≤ 40 ∧ ∀ k (h : k < s.size), 33 ≤ (s[k]).toNat ∧ (s[k]).toNat ≤ 126
set_option maxRecDepth 100000 in
set_option maxHeartbeats 4000000 in
theorem is_any (s : ByteArray) (w : World) (h : nameB s) :
    Calls Try.prog 61 #[.string s] w fun e w' => e = .returned (.bool true) ∧ w = w' := by
  obtain ⟨h0, h40, hb⟩ := h
  have Hb := Lib.hid hb
  clear hb
  go_enter Try.func61, Try.ntmps61
  go_wp2_with fail
  go_loop [3, 6] (fun _ i => ∃ k : Nat, k ≤ s.size ∧ i = .int .i64 k) (fun _ i => s.size - (intOf i).toNat)
  case atStart => exact ⟨0, Nat.zero_le _, rfl⟩
  case round =>
    obtain ⟨k, hk, rfl⟩ := hrel
    by_cases hlt : k < s.size
    · obtain ⟨h1, h2⟩ := Hb.out k hlt
      obtain ⟨x, hx⟩ : ∃ x, (s[k]).toNat = x := ⟨_, rfl⟩
      rw [hx] at h1 h2
      have t0 : decide ((x : Int) < 33) = false := decide_eq_false (by omega)
      have t1 : decide ((126 : Int) < (x : Int)) = false := decide_eq_false (by omega)
      have t2 : decide (x < 33) = false := decide_eq_false (by omega)
      have t3 : decide (126 < x) = false := decide_eq_false (by omega)
      go_wp2_with fail
      go_round
      case rel => exact ⟨k + 1, by omega, by go_num⟩
      case measure => simp [intOf]; omega
    · have t0 : decide ((0 : Int) < (s.size : Int)) = true := decide_eq_true (by omega)
      have t1 : decide ((s.size : Int) ≤ 40) = true := decide_eq_true (by omega)
      have t2 : decide (0 < s.size) = true := decide_eq_true (by omega)
      have t3 : decide (s.size ≤ 40) = true := decide_eq_true (by omega)
      go_wp2_with fail
      go_ret
      exact ⟨rfl, rfl⟩
theorem strK : Keyed Try.prog 9 := string_keyed Try.underlying9
theorem keyS {s : ByteArray} (h : s.size ≤ 40) : keyOf Try.prog 9 (.string s) = some (.string s.data.toList) := keyOf_string_mk Try.underlying9 (by unfold maxLen; omega)
theorem zeroB (w : World) : (zeroValue 4).run Try.prog w = .ok (.bool false) w := by kernel_rfl
/-- The names that have come. -/
def namesD (l : List ByteArray) : DataW Unit := setOf (.lit (.bool true)) (l.map fun s => Lit.string s.data.toList)
theorem namesD_snoc (l : List ByteArray) (s : ByteArray) : namesD (l ++ [s]) = (namesD l).put (.string s.data.toList) (.lit (.bool true)) := by
  unfold namesD
  rw [List.map_append, List.map_singleton, setOf_snoc]
theorem has_names {k : Lit} : ∀ (l : List ByteArray) (m : DataW Unit), (∀ s ∈ l, k ≠ Lit.string s.data.toList) → Maps.has (l.foldl (fun m s => m.put (Lit.string s.data.toList) (.lit (.bool true))) m) k = Maps.has m k
  | [], _, _ => rfl
  | s :: l, m, h => by
    rw [List.foldl_cons, has_names l _ (fun x hx => h x (List.mem_cons_of_mem _ hx)), has_put_other (h s (List.mem_cons_self ..))]
theorem names_none {l : List ByteArray} {s : ByteArray} (h : s ∉ l) : Maps.has (namesD l) (.string s.data.toList) = false := by
  unfold namesD setOf
  rw [List.foldl_map, has_names]
  · rfl
  · intro x hx e
    injection e with e
    have : s = x := by
      obtain ⟨⟨a⟩⟩ := s
      obtain ⟨⟨b⟩⟩ := x
      simp only at e
      rw [e]
    exact h (this ▸ hx)
set_option maxRecDepth 100000 in
theorem lookB {w : World} {b n : Nat} {l : List ByteArray} {s : ByteArray} (h : w.ownsMap Try.prog 9 (plainElem Try.prog 4) b n (namesD l)) (hs : s.size ≤ 40) (hn : s ∉ l) :
    (Instr.lookup 137 (.map (some b)) (.string s) false).run Try.prog w = .ok (.bool false) w := by
  obtain ⟨v, ps, hrun, hv⟩ := h.lookup strK Try.underlying137 (zeroB w) (plainElem_bool Try.underlying4 false) (keyS hs)
  rw [atKey_of_not_has (names_none hn)] at hv
  have : v = .bool false := by
    unfold plainElem at hv
    rw [Try.underlying4] at hv
    cases v <;> simp at hv
    rw [hv.1]
  rw [← this]; exact hrun
set_option maxRecDepth 100000 in
set_option maxHeartbeats 4000000 in
theorem add_any (b n : Nat) (l : List ByteArray) (s : ByteArray) (w : World) (h : w.ownsMap Try.prog 9 (plainElem Try.prog 4) b n (namesD l)) (hn : n ≤ 1000) (hs : nameB s) (hl : s ∉ l) :
    Calls Try.prog 62 #[.map (some b), .string s] w fun e w' => e = .returned (.int .i64 0) ∧ w'.ownsMap Try.prog 9 (plainElem Try.prog 4) b (n + 1) (namesD (l ++ [s])) ∧ w.grownBy w' (some b) := by
  have HI := Lib.hid (fun w' => is_any s w' hs)
  have hk := keyS hs.2.1
  have hlook := lookB h hs.2.1 hl
  have H := Lib.hid h
  rw [namesD_snoc]
  clear h hs hl
  go_enter Try.func62, Try.ntmps62
  go_wp2_with fail
  refine (HI.out _).mono ?_
  rintro e w1 ⟨rfl, rfl⟩
  go_wp2_with (first
    | (at_mapUpdate; refine wpList_mapUpdate_own _ rfl _ _ _ 137 rfl 9 4 strK Try.underlying137 (plainElem Try.prog 4) b n _ rfl H.out (by unfold maxLen; omega) _ _ _ rfl rfl hk _ [] (plainElem_bool Try.underlying4 true) ?_; intro w2 hown2 hgrow2))
  go_ret
  exact ⟨rfl, hown2, hgrow2⟩
def geO : Option Int → Int → Bool
  | none, _ => false
  | some q, x => decide (x ≤ q)
/-- The error of literals behind one of option p. -/
def chE (n : Nat) : Option Int → List (Int × Bool) → Int
  | _, [] => 0
  | p, x :: l => if x.1 < 0 ∨ (n : Int) ≤ x.1 then 10 else if geO p x.1 = true then 8 else chE n (some x.1) l
def pvL (ls : List (Int × Bool)) : Nat → Option Int
  | 0 => none
  | j + 1 => ls[j]?.map (·.1)
theorem chE_bad {n : Nat} {p : Option Int} {x : Int × Bool} {l : List (Int × Bool)} (h : x.1 < 0 ∨ (n : Int) ≤ x.1) : chE n p (x :: l) = 10 := by rw [chE, if_pos h]
theorem chE_first {n : Nat} {x : Int × Bool} {l : List (Int × Bool)} (h : ¬ (x.1 < 0 ∨ (n : Int) ≤ x.1)) : chE n none (x :: l) = chE n (some x.1) l := by rw [chE, if_neg h, if_neg (by simp [geO])]
theorem chE_order {n : Nat} {q : Int} {x : Int × Bool} {l : List (Int × Bool)} (h : ¬ (x.1 < 0 ∨ (n : Int) ≤ x.1)) (hq : x.1 ≤ q) : chE n (some q) (x :: l) = 8 := by rw [chE, if_neg h, if_pos (by simpa [geO] using hq)]
theorem chE_next {n : Nat} {q : Int} {x : Int × Bool} {l : List (Int × Bool)} (h : ¬ (x.1 < 0 ∨ (n : Int) ≤ x.1)) (hq : ¬ x.1 ≤ q) : chE n (some q) (x :: l) = chE n (some x.1) l := by rw [chE, if_neg h, if_neg (by simpa [geO] using hq)]
theorem drop_at {α : Type} {l : List α} {j : Nat} {x : α} (h : l[j]? = some x) : l.drop j = x :: l.drop (j + 1) := by
  have hj : j < l.length := by
    rcases Nat.lt_or_ge j l.length with h1 | h1
    · exact h1
    · rw [List.getElem?_eq_none h1] at h; cases h
  rw [List.drop_eq_getElem_cons hj]
  rw [List.getElem?_eq_getElem hj] at h
  injection h with h
  rw [h]
set_option maxRecDepth 100000 in
set_option maxHeartbeats 8000000 in
theorem checkChoice_any (f : Fm) (A : Option Addr) (m d : Nat) (ls : List (Int × Bool)) (w : World) (h : LitL w A ls) (hm : ls.length = m) (hm2 : m ≤ 4611686018427387904) (_hn : f.n ≤ 4611686018427387904) :
    Calls Try.prog 63 #[f.v, .slice A m d] w fun e w' => e = .returned (.int .i64 (chE f.n none ls)) ∧ Below w.heap.size w w' := by
  have kv := (Below.refl w.heap.size w).alloc (Nat.le_refl _) (.cells f.cells 40)
  have P0 := Lib.hid (Cells.new w f.cells 40)
  have E0 := Lib.hid (h.keep kv)
  have Hm := Lib.hid hm
  have Kv := Lib.hid kv
  obtain ⟨w0, hw0⟩ : ∃ u, w.alloc (.cells f.cells 40) = u := ⟨_, rfl⟩
  have hw0' : w.alloc (.cells #[.string f.nm, .slice f.PA f.pn f.pc, .slice f.IA f.iN f.ic, .slice f.DA f.dn f.dc, .slice f.KA f.kn f.kc, .slice f.QA f.qn f.qc, .slice f.OA f.n f.oc, .slice f.RA f.rn f.rc, .slice f.GA f.gn f.gc, .slice f.VA f.vn f.vc] 40) = w0 := hw0
  rw [hw0] at P0 E0 Kv
  have hw0 := Lib.hid hw0
  clear h hm kv
  go_enter Try.func63, Try.ntmps63
  go_wp2_with fail
  try rw [hw0']
  clear hw0'
  go_loopw [5, 6, 9] (fun _ _ i wr => ∃ j : Nat, i = .int .i64 (j : Nat) ∧ j ≤ m ∧ chE f.n none ls = chE f.n (pvL ls j) (ls.drop j) ∧ Below w0.heap.size w0 wr) (fun _ _ i _ => m - (intOf i).toNat)
  case atStart => exact ⟨0, rfl, Nat.zero_le _, by rw [List.drop_zero]; rfl, Below.refl _ _⟩
  case round =>
    obtain ⟨j, rfl, hj, hall, hb⟩ := hrel
    have Hall := Lib.hid hall
    have B6 := Lib.hid hb
    have E6 := Lib.hid (E0.out.keep hb)
    have P6 := Lib.hid (P0.out.keep hb)
    clear hall hb
    by_cases hlt : j < m
    · obtain ⟨e0, bb, o, he, rfl, hbw, c0, c1⟩ := E6.out.at_ (k := j) (by rw [Hm.out]; exact hlt)
      obtain ⟨x, sx⟩ := e0
      simp only at c0 c1
      have Hlt := Lib.hid hlt
      have Hd := Lib.hid (drop_at he)
      have Hpv := Lib.hid (show pvL ls (j + 1) = some x by show ls[j]?.map (·.1) = some x; rw [he]; rfl)
      have kv := (Below.refl wr.heap.size wr).alloc (Nat.le_refl _) (.cells #[.int .i64 x, .bool sx] 68)
      have P7 := Lib.hid (Cells.new wr #[.int .i64 x, .bool sx] 68)
      have Kx := Lib.hid kv
      have B7 := Lib.hid (below_on B6.out kv)
      have F7 := Lib.hid (P6.out.keep kv)
      have E7 := Lib.hid (E6.out.keep kv)
      have Bw := Lib.hid (below_on Kv.out B7.out)
      clear kv
      obtain ⟨wm, hwm⟩ : ∃ u, wr.alloc (.cells #[.int .i64 x, .bool sx] 68) = u := ⟨_, rfl⟩
      rw [hwm] at P7 B7 F7 E7 Bw Kx
      have g0 := P7.out.at_ 0
      have g6 := F7.out.at_ 6
      simp only [List.getElem?_cons_zero, List.getElem?_cons_succ] at g0 g6
      by_cases hx0 : x < 0
      · have Hr := Lib.hid (show chE f.n none ls = 10 by rw [Hall.out, Hd.out]; exact chE_bad (.inl hx0))
        have t0 : decide (x < 0) = true := decide_eq_true hx0
        clear he
        go_wp2_with fail
        go_ret
        exact ⟨ret_int Hr.out.symm, Bw.out⟩
      · have t0 : decide (x < 0) = false := decide_eq_false hx0
        by_cases hxn : (f.n : Int) ≤ x
        · have Hr := Lib.hid (show chE f.n none ls = 10 by rw [Hall.out, Hd.out]; exact chE_bad (.inr hxn))
          have t1 : decide ((f.n : Int) ≤ x) = true := decide_eq_true hxn
          clear he
          go_wp2_with fail
          go_ret
          exact ⟨ret_int Hr.out.symm, Bw.out⟩
        · have t1 : decide ((f.n : Int) ≤ x) = false := decide_eq_false hxn
          have hin : ¬ (x < 0 ∨ (f.n : Int) ≤ x) := by omega
          cases j with
          | zero =>
            have Hr := Lib.hid (show chE f.n none ls = chE f.n (pvL ls 1) (ls.drop 1) by rw [Hpv.out, Hall.out, Hd.out]; exact chE_first hin)
            simp only [Nat.zero_mul, Nat.add_zero] at c0 c1
            clear he hin
            go_upto_region 6 with fail
            try rw [hwm]
            have HS := Lib.hid (fun w' (hb : Below wm.heap.size wm w') => ((P7.out.keep hb).at_ 0 : w'.cell? ⟨wr.heap.size, 0, none⟩ = some (.int .i64 x)))
            refine Till.begin 12 (fun w' => w'.cell? ⟨wr.heap.size, 0, none⟩ = some (.int .i64 x)) (by kernel_rfl) (HS.out _ (Below.refl _ _).drew) (fun hH => ?_)
            clear hH
            have HB := Lib.hid (Below.refl wm.heap.size wm).drew
            generalize wm.drew = v0 at HB ⊢
            try simp only [List.setIfInBounds_toArray, List.set_cons_zero, List.set_cons_succ]
            refine Till.one (i := 0) (by kernel_rfl) rfl (fun K hK => ?_)
            go_simp
            refine hK.out _ _ (fun _ => HS.out _ HB.out) ?_
            clear hK K
            try simp only [List.setIfInBounds_toArray, List.set_cons_zero, List.set_cons_succ]
            refine Till.one (i := 1) (by kernel_rfl) rfl (fun K hK => ?_)
            go_simp
            refine hK.out _ _ (fun _ => HS.out _ HB.out) ?_
            clear hK K
            try simp only [List.setIfInBounds_toArray, List.set_cons_zero, List.set_cons_succ]
            refine Till.one (i := 2) (by kernel_rfl) rfl (fun K hK => ?_)
            go_simp
            refine hK.out _ _ (fun _ => HS.out _ HB.out) ?_
            clear hK K
            try simp only [List.setIfInBounds_toArray, List.set_cons_zero, List.set_cons_succ]
            refine Till.sL 3 [6, 7, 8, 11, 12] 28 (HS.out _ HB.out) ?_
            try simp only [Act.put, List.setIfInBounds_toArray, List.set_cons_zero, List.set_cons_succ]
            refine Till.sL 4 [5, 6, 7, 8, 11, 12] 29 (HS.out _ HB.out) ?_
            try simp only [Act.put, List.setIfInBounds_toArray, List.set_cons_zero, List.set_cons_succ]
            refine Till.sL 5 [6, 7, 8, 11, 12] 30 (HS.out _ HB.out) ?_
            try simp only [Act.put, List.setIfInBounds_toArray, List.set_cons_zero, List.set_cons_succ]
            refine Till.sL 6 [7, 8, 11, 12] 31 (HS.out _ HB.out) ?_
            try simp only [Act.put, List.setIfInBounds_toArray, List.set_cons_zero, List.set_cons_succ]
            refine Till.sL 7 [8, 11, 12] 32 (HS.out _ HB.out) ?_
            try simp only [Act.put, List.setIfInBounds_toArray, List.set_cons_zero, List.set_cons_succ]
            refine Till.sk 8 11 33 (HS.out _ HB.out) ?_
            try simp only [Act.put, List.setIfInBounds_toArray, List.set_cons_zero, List.set_cons_succ]
            refine Till.one (i := 9) (by kernel_rfl) rfl (fun K hK => ?_)
            go_simp
            refine hK.out _ _ (fun _ => HS.out _ HB.out) ?_
            clear hK K
            try simp only [List.setIfInBounds_toArray, List.set_cons_zero, List.set_cons_succ]
            refine Till.one (i := 10) (by kernel_rfl) rfl (fun K hK => ?_)
            go_simp
            refine hK.out _ _ (fun _ => HS.out _ HB.out) ?_
            clear hK K
            try simp only [List.setIfInBounds_toArray, List.set_cons_zero, List.set_cons_succ]
            refine Till.one (i := 11) (by kernel_rfl) rfl (fun K hK => ?_)
            go_simp
            refine hK.out _ _ (fun _ => HS.out _ HB.out) ?_
            clear hK K
            try simp only [List.setIfInBounds_toArray, List.set_cons_zero, List.set_cons_succ]
            refine Till.one (i := 12) (by kernel_rfl) rfl (fun K hK => ?_)
            go_simp
            refine hK.out _ _ (fun h => absurd h (by simp)) ?_
            clear hK K
            try simp only [List.setIfInBounds_toArray, List.set_cons_zero, List.set_cons_succ]
            refine Till.done (by kernel_rfl) ?_ _
            have Bz := Lib.hid (below_on B7.out HB.out)
            go_wp2_with fail
            go_roundw
            case rel => exact ⟨0 + 1, by go_num, Hlt.out, Hr.out, Bz.out⟩
            case measure => simp [intOf]; have := Hlt.out; omega
          | succ i =>
            obtain ⟨e1, bb1, o1, he1, hA1, _, d0, _⟩ := E7.out.at_ (k := i) (by rw [Hm.out]; omega)
            injection hA1 with hA1
            injection hA1 with hA1 hA2
            subst hA1 hA2
            obtain ⟨q, sq⟩ := e1
            simp only at d0
            have Hpq := Lib.hid (show pvL ls (i + 1) = some q by show ls[i]?.map (·.1) = some q; rw [he1]; rfl)
            have d0' : wm.cell? ⟨bb, o + (i + 1 - 1) * 2, none⟩ = some (.int .i64 q) := d0
            have D0 := Lib.hid (fun w' (hb : Below wm.heap.size wm w') => (hb.cell (World.block_lt_of_cell? _ _ d0')).trans d0')
            have ew : IntKind.i64.wrap (((i + 1 : Nat) : Int) - 1) = ((i + 1 - 1 : Nat) : Int) := by rw [show ((i + 1 : Nat) : Int) - 1 = ((i + 1 - 1 : Nat) : Int) by omega]; exact IntWalk.i64_in _ (by omega)
            have ei : (((i : Nat) : Int) + 1) - 1 = ((i + 1 - 1 : Nat) : Int) := by omega
            have ii : ((i + 1 - 1 : Nat) : Int) < (m : Int) := by omega
            have tj : decide ((0 : Int) < ((i + 1 : Nat) : Int)) = true := decide_eq_true (by omega)
            obtain ⟨i', hi'⟩ : ∃ i', i + 1 - 1 = i' := ⟨_, rfl⟩
            by_cases hq : x ≤ q
            · have tq : decide (x ≤ q) = true := decide_eq_true hq
              have Hr := Lib.hid (show chE f.n none ls = 8 by rw [Hall.out, Hd.out, Hpq.out]; exact chE_order hin hq)
              clear he he1 hin d0 d0' hq hi'
              obtain ⟨j, hjj⟩ : ∃ j, i + 1 = j := ⟨_, rfl⟩
              rw [hjj] at D0 ew ii tj ei c0 c1
              try rw [hjj]
              have Hlt2 := Lib.hid (show j < m by have := Hlt.out; omega)
              have hj0 : 0 < j := by omega
              have tj2 : decide (0 < j) = true := decide_eq_true hj0
              go_upto_region 6 with fail
              try rw [hwm]
              have HS := Lib.hid (fun w' (hb : Below wm.heap.size wm w') => (⟨(P7.out.keep hb).at_ 0, D0.out _ hb⟩ : w'.cell? ⟨wr.heap.size, 0, none⟩ = some (.int .i64 x) ∧ w'.cell? ⟨bb, o + (j - 1) * 2, none⟩ = some (.int .i64 q)))
              refine Till.begin 12 (fun w' => w'.cell? ⟨wr.heap.size, 0, none⟩ = some (.int .i64 x) ∧ w'.cell? ⟨bb, o + (j - 1) * 2, none⟩ = some (.int .i64 q)) (by kernel_rfl) (HS.out _ (Below.refl _ _).drew) (fun hH => ?_)
              clear hH
              have HB := Lib.hid (Below.refl wm.heap.size wm).drew
              generalize wm.drew = v0 at HB ⊢
              try simp only [List.setIfInBounds_toArray, List.set_cons_zero, List.set_cons_succ]
              refine Till.one (i := 0) (by kernel_rfl) rfl (fun K hK => ?_)
              go_simp
              refine hK.out _ _ (fun _ => HS.out _ HB.out) ?_
              clear hK K
              try simp only [List.setIfInBounds_toArray, List.set_cons_zero, List.set_cons_succ]
              refine Till.one (i := 1) (by kernel_rfl) rfl (fun K hK => ?_)
              go_simp
              refine hK.out _ _ (fun _ => HS.out _ HB.out) ?_
              clear hK K
              try simp only [List.setIfInBounds_toArray, List.set_cons_zero, List.set_cons_succ]
              refine Till.one (i := 2) (by kernel_rfl) rfl (fun K hK => ?_)
              go_simp
              refine hK.out _ _ (fun _ => HS.out _ HB.out) ?_
              clear hK K
              try simp only [List.setIfInBounds_toArray, List.set_cons_zero, List.set_cons_succ]
              refine Till.tL 3 [6, 7, 8, 11, 12] 28 (.slice (some ⟨bb, o, none⟩) m d) (HS.out _ HB.out) ?_
              try simp only [Act.put, List.setIfInBounds_toArray, List.set_cons_zero, List.set_cons_succ]
              refine Till.tL 4 [5, 6, 7, 8, 11, 12] 29 (.int .i64 (j : Nat)) (HS.out _ HB.out) ?_
              try simp only [Act.put, List.setIfInBounds_toArray, List.set_cons_zero, List.set_cons_succ]
              refine Till.tL 5 [6, 7, 8, 11, 12] 30 (.int .i64 ((j - 1 : Nat) : Int)) (HS.out _ HB.out) ?_
              try simp only [Act.put, List.setIfInBounds_toArray, List.set_cons_zero, List.set_cons_succ]
              refine Till.tL 6 [7, 8, 11, 12] 31 (.pointer (some ⟨bb, o + (j - 1) * 2, none⟩)) (HS.out _ HB.out) ?_
              try simp only [Act.put, List.setIfInBounds_toArray, List.set_cons_zero, List.set_cons_succ]
              refine Till.tL 7 [8, 11, 12] 32 (.pointer (some ⟨bb, o + (j - 1) * 2, none⟩)) (HS.out _ HB.out) ?_
              try simp only [Act.put, List.setIfInBounds_toArray, List.set_cons_zero, List.set_cons_succ]
              refine Till.tk 8 11 33 (.int .i64 q) (HS.out _ HB.out) ?_
              try simp only [Act.put, List.setIfInBounds_toArray, List.set_cons_zero, List.set_cons_succ]
              refine Till.one (i := 9) (by kernel_rfl) rfl (fun K hK => ?_)
              go_simp
              refine hK.out _ _ (fun _ => HS.out _ HB.out) ?_
              clear hK K
              try simp only [List.setIfInBounds_toArray, List.set_cons_zero, List.set_cons_succ]
              refine Till.tk 10 11 35 (.int .i64 x) (HS.out _ HB.out) ?_
              try simp only [Act.put, List.setIfInBounds_toArray, List.set_cons_zero, List.set_cons_succ]
              refine Till.one (i := 11) (by kernel_rfl) rfl (fun K hK => ?_)
              go_simp
              refine hK.out _ _ (fun _ => HS.out _ HB.out) ?_
              clear hK K
              try simp only [List.setIfInBounds_toArray, List.set_cons_zero, List.set_cons_succ]
              refine Till.one (i := 12) (by kernel_rfl) rfl (fun K hK => ?_)
              go_simp
              refine hK.out _ _ (fun h => absurd h (by simp)) ?_
              clear hK K
              try simp only [List.setIfInBounds_toArray, List.set_cons_zero, List.set_cons_succ]
              refine Till.done (by kernel_rfl) ?_ _
              go_wp2_with fail
              go_ret
              exact ⟨ret_int Hr.out.symm, below_on Bw.out HB.out⟩
            · have tq : decide (x ≤ q) = false := decide_eq_false hq
              have Hr := Lib.hid (show chE f.n none ls = chE f.n (pvL ls (i + 1 + 1)) (ls.drop (i + 1 + 1)) by rw [Hpv.out, Hall.out, Hd.out, Hpq.out]; exact chE_next hin hq)
              clear he he1 hin d0 d0' hq hi'
              obtain ⟨j, hjj⟩ : ∃ j, i + 1 = j := ⟨_, rfl⟩
              rw [hjj] at D0 ew ii tj ei Hr c0 c1
              try rw [hjj]
              have Hlt2 := Lib.hid (show j < m by have := Hlt.out; omega)
              have hj0 : 0 < j := by omega
              have tj2 : decide (0 < j) = true := decide_eq_true hj0
              go_upto_region 6 with fail
              try rw [hwm]
              have HS := Lib.hid (fun w' (hb : Below wm.heap.size wm w') => (⟨(P7.out.keep hb).at_ 0, D0.out _ hb⟩ : w'.cell? ⟨wr.heap.size, 0, none⟩ = some (.int .i64 x) ∧ w'.cell? ⟨bb, o + (j - 1) * 2, none⟩ = some (.int .i64 q)))
              refine Till.begin 12 (fun w' => w'.cell? ⟨wr.heap.size, 0, none⟩ = some (.int .i64 x) ∧ w'.cell? ⟨bb, o + (j - 1) * 2, none⟩ = some (.int .i64 q)) (by kernel_rfl) (HS.out _ (Below.refl _ _).drew) (fun hH => ?_)
              clear hH
              have HB := Lib.hid (Below.refl wm.heap.size wm).drew
              generalize wm.drew = v0 at HB ⊢
              try simp only [List.setIfInBounds_toArray, List.set_cons_zero, List.set_cons_succ]
              refine Till.one (i := 0) (by kernel_rfl) rfl (fun K hK => ?_)
              go_simp
              refine hK.out _ _ (fun _ => HS.out _ HB.out) ?_
              clear hK K
              try simp only [List.setIfInBounds_toArray, List.set_cons_zero, List.set_cons_succ]
              refine Till.one (i := 1) (by kernel_rfl) rfl (fun K hK => ?_)
              go_simp
              refine hK.out _ _ (fun _ => HS.out _ HB.out) ?_
              clear hK K
              try simp only [List.setIfInBounds_toArray, List.set_cons_zero, List.set_cons_succ]
              refine Till.one (i := 2) (by kernel_rfl) rfl (fun K hK => ?_)
              go_simp
              refine hK.out _ _ (fun _ => HS.out _ HB.out) ?_
              clear hK K
              try simp only [List.setIfInBounds_toArray, List.set_cons_zero, List.set_cons_succ]
              refine Till.tL 3 [6, 7, 8, 11, 12] 28 (.slice (some ⟨bb, o, none⟩) m d) (HS.out _ HB.out) ?_
              try simp only [Act.put, List.setIfInBounds_toArray, List.set_cons_zero, List.set_cons_succ]
              refine Till.tL 4 [5, 6, 7, 8, 11, 12] 29 (.int .i64 (j : Nat)) (HS.out _ HB.out) ?_
              try simp only [Act.put, List.setIfInBounds_toArray, List.set_cons_zero, List.set_cons_succ]
              refine Till.tL 5 [6, 7, 8, 11, 12] 30 (.int .i64 ((j - 1 : Nat) : Int)) (HS.out _ HB.out) ?_
              try simp only [Act.put, List.setIfInBounds_toArray, List.set_cons_zero, List.set_cons_succ]
              refine Till.tL 6 [7, 8, 11, 12] 31 (.pointer (some ⟨bb, o + (j - 1) * 2, none⟩)) (HS.out _ HB.out) ?_
              try simp only [Act.put, List.setIfInBounds_toArray, List.set_cons_zero, List.set_cons_succ]
              refine Till.tL 7 [8, 11, 12] 32 (.pointer (some ⟨bb, o + (j - 1) * 2, none⟩)) (HS.out _ HB.out) ?_
              try simp only [Act.put, List.setIfInBounds_toArray, List.set_cons_zero, List.set_cons_succ]
              refine Till.tk 8 11 33 (.int .i64 q) (HS.out _ HB.out) ?_
              try simp only [Act.put, List.setIfInBounds_toArray, List.set_cons_zero, List.set_cons_succ]
              refine Till.one (i := 9) (by kernel_rfl) rfl (fun K hK => ?_)
              go_simp
              refine hK.out _ _ (fun _ => HS.out _ HB.out) ?_
              clear hK K
              try simp only [List.setIfInBounds_toArray, List.set_cons_zero, List.set_cons_succ]
              refine Till.tk 10 11 35 (.int .i64 x) (HS.out _ HB.out) ?_
              try simp only [Act.put, List.setIfInBounds_toArray, List.set_cons_zero, List.set_cons_succ]
              refine Till.one (i := 11) (by kernel_rfl) rfl (fun K hK => ?_)
              go_simp
              refine hK.out _ _ (fun _ => HS.out _ HB.out) ?_
              clear hK K
              try simp only [List.setIfInBounds_toArray, List.set_cons_zero, List.set_cons_succ]
              refine Till.one (i := 12) (by kernel_rfl) rfl (fun K hK => ?_)
              go_simp
              refine hK.out _ _ (fun h => absurd h (by simp)) ?_
              clear hK K
              try simp only [List.setIfInBounds_toArray, List.set_cons_zero, List.set_cons_succ]
              refine Till.done (by kernel_rfl) ?_ _
              have Bz := Lib.hid (below_on B7.out HB.out)
              go_wp2_with fail
              go_roundw
              case rel => exact ⟨j + 1, by go_num, Hlt2.out, Hr.out, Bz.out⟩
              case measure => simp [intOf]; have := Hlt2.out; omega
    · have hjm : j = m := by omega
      have Hr := Lib.hid (show chE f.n none ls = 0 by rw [Hall.out, List.drop_of_length_le (by rw [Hm.out]; omega)]; cases pvL ls j <;> rfl)
      clear hj
      go_wp2_with fail
      go_ret
      exact ⟨ret_int Hr.out.symm, below_on Kv.out B6.out⟩
end Go.Proofs.Ytmfmpkihmadjmaa
